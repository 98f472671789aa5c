package machine

import (
	"lectern/api"
	"lectern/code"
)

// operate works out what has operands alone. Values of 32 bits wrap round as the sums of the program do.
func (m *Machine) operate(op int) {
	switch op {
	case code.Negate:
		m.push(-m.pop())
	case code.Not:
		m.push(truth(m.pop() == 0))
	case code.Truth:
		m.push(truth(m.pop() != 0))
	default:
		right := m.pop()
		left := m.pop()
		m.join(op, left, right)
	}
}

func (m *Machine) join(op int, left, right int32) {
	switch op {
	case code.Add:
		m.push(left + right)
	case code.Subtract:
		m.push(left - right)
	case code.Multiply:
		m.push(left * right)
	case code.Equal:
		m.push(truth(left == right))
	case code.Differ:
		m.push(truth(left != right))
	case code.Less:
		m.push(truth(left < right))
	case code.Greater:
		m.push(truth(left > right))
	default:
		m.divide(op, left, right)
	}
}

// divide needs no case for the least value and -1: the language cuts their quotient to the least value, and leaves 0.
func (m *Machine) divide(op int, left, right int32) {
	switch {
	case right == 0:
		m.end(api.ErrDiv)
	case op == code.Divide:
		m.push(left / right)
	default:
		m.push(left % right)
	}
}

func truth(holds bool) int32 {
	if holds {
		return 1
	}
	return 0
}
