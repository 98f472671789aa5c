package compile

import (
	"lectern/code"
	"lectern/tree"
)

func (m *maker) expr(e tree.Expr) {
	switch e := e.(type) {
	case tree.Number:
		m.lay(code.Push, e.Value)
	case tree.Variable:
		m.get(e.Name)
	case tree.Element:
		m.find(e.Array, e.Index)
		m.lay(code.GetAt)
	case tree.CallFunc:
		m.call(e.Name, e.Args)
	case tree.Binary:
		m.binary(e)
	case tree.Unary:
		m.expr(e.Operand)
		m.lay(unary(e.Op))
	}
}

func (m *maker) binary(e tree.Binary) {
	m.expr(e.Left)
	switch e.Op {
	case "and":
		m.and(e.Right)
	case "or":
		m.or(e.Right)
	default:
		m.expr(e.Right)
		m.lay(operation(e.Op))
	}
}

// and goes on behind the left operand.
func (m *maker) and(right tree.Expr) {
	over := m.lay(code.Unless, unknown)
	m.expr(right)
	m.lay(code.Truth)
	end := m.lay(code.Jump, unknown)
	m.aim(over)
	m.lay(code.Push, 0)
	m.aim(end)
}

// or goes on behind the left operand.
func (m *maker) or(right tree.Expr) {
	other := m.lay(code.Unless, unknown)
	m.lay(code.Push, 1)
	end := m.lay(code.Jump, unknown)
	m.aim(other)
	m.expr(right)
	m.lay(code.Truth)
	m.aim(end)
}

func unary(op string) int {
	if op == "-" {
		return code.Negate
	}
	return code.Not
}

func operation(op string) int {
	switch op {
	case "+":
		return code.Add
	case "-":
		return code.Subtract
	case "*":
		return code.Multiply
	case "/":
		return code.Divide
	case "%":
		return code.Remain
	case "=":
		return code.Equal
	case "#":
		return code.Differ
	case "<":
		return code.Less
	}
	return code.Greater
}
