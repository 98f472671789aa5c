// Package machine runs code.
package machine

import (
	"lectern/api"
	"lectern/code"
)

// Run answers the outcome of a program over an input, with so much fuel.
func Run(program code.Program, input []int32, fuel int) api.Outcome {
	m := &machine{
		words:  program.Words,
		next:   program.Start,
		places: make([]int32, program.Places),
		input:  input,
		fuel:   fuel,
	}
	for !m.over {
		m.step()
	}
	return m.outcome
}

// frame is what a call goes back to.
type frame struct {
	next int
	base int
}

type machine struct {
	words   []int
	next    int     // the word that comes next
	places  []int32 // of the globals
	stack   []int32 // the frames of the calls that are going on, with the operands that wait between them
	base    int     // where the last frame begins
	calls   []frame
	input   []int32 // what has not been read
	fuel    int
	outcome api.Outcome
	over    bool
}

func (m *machine) end(how api.Errno) {
	m.outcome.Code = how
	m.over = true
}

// part takes the next word: what to do, or a part of that.
func (m *machine) part() int {
	word := m.words[m.next]
	m.next++
	return word
}

func (m *machine) push(value int32) {
	m.stack = append(m.stack, value)
}

func (m *machine) pop() int32 {
	last := len(m.stack) - 1
	value := m.stack[last]
	m.stack = m.stack[:last]
	return value
}

func (m *machine) step() {
	switch op := m.part(); op {
	case code.End:
		m.end(api.OK)
	case code.Unit:
		m.unit()
	case code.Push:
		m.push(int32(m.part()))
	case code.Get:
		m.push(m.places[m.part()])
	case code.Set:
		m.places[m.part()] = m.pop()
	case code.GetLocal:
		m.push(m.stack[m.base+m.part()])
	case code.SetLocal:
		value := m.pop()
		m.stack[m.base+m.part()] = value
	case code.Find:
		m.find(m.part(), m.part())
	case code.GetAt:
		m.push(m.places[m.pop()])
	case code.SetAt:
		value := m.pop()
		m.places[m.pop()] = value
	case code.Jump:
		m.next = m.part()
	case code.Unless:
		m.unless(m.part())
	case code.Call:
		m.call(m.part(), m.part())
	case code.Enter:
		m.stack = append(m.stack, make([]int32, m.part())...)
	case code.Leave:
		m.leave()
	case code.LeaveWith:
		result := m.stack[m.base+m.part()]
		m.leave()
		m.push(result)
	case code.Write:
		m.write(m.pop())
	case code.Read:
		m.read()
	default:
		m.operate(op)
	}
}

func (m *machine) unit() {
	if m.outcome.Used == m.fuel {
		m.end(api.ErrFuel)
		return
	}
	m.outcome.Used++
}

func (m *machine) find(first, size int) {
	index := int(m.pop())
	if index < 0 || index >= size {
		m.end(api.ErrIndex)
		return
	}
	m.push(int32(first + index))
}

func (m *machine) unless(to int) {
	if m.pop() == 0 {
		m.next = to
	}
}

// call lets the frame begin with the arguments, which are on the stack already.
func (m *machine) call(to, args int) {
	if len(m.calls) == api.MaxCalls {
		m.end(api.ErrCalls)
		return
	}
	m.calls = append(m.calls, frame{next: m.next, base: m.base})
	m.base = len(m.stack) - args
	m.next = to
}

func (m *machine) leave() {
	last := len(m.calls) - 1
	m.stack = m.stack[:m.base]
	m.next, m.base = m.calls[last].next, m.calls[last].base
	m.calls = m.calls[:last]
}

func (m *machine) write(value int32) {
	if len(m.outcome.Out) == api.MaxOut {
		m.end(api.ErrOut)
		return
	}
	m.outcome.Out = append(m.outcome.Out, int(value))
}

func (m *machine) read() {
	if len(m.input) == 0 {
		m.end(api.ErrInput)
		return
	}
	m.push(m.input[0])
	m.input = m.input[1:]
}
