// Package machine runs code.
package machine

import (
	"lectern/api"
	"lectern/code"
)

// New answers a machine that stands at the start of a program. It goes along the words and the input, and writes into neither.
func New(program code.Program, input []int32, fuel int) *Machine {
	return &Machine{
		words:  program.Words,
		next:   program.Start,
		places: make([]int32, program.Places),
		input:  input,
		fuel:   fuel,
	}
}

// GoOn is a turn: it goes on till the program ends, or has used so many units in this turn and one more is due. It answers the outcome so far, and whether the program has ended. What is written later is laid behind that list, never into it.
func (m *Machine) GoOn(units int) (api.Outcome, bool) {
	m.limit = m.outcome.Used + units
	m.waits = false
	for !m.over && !m.waits {
		m.step()
	}
	return m.outcome, m.over
}

// frame is what a call goes back to.
type frame struct {
	next int
	base int
}

// Machine is a program at work, which may be halted wherever a unit is due.
type Machine struct {
	words   []int
	next    int     // the word that comes next
	places  []int32 // of the globals
	stack   []int32 // the frames of the calls that are going on, with the operands that wait between them
	base    int     // where the last frame begins
	calls   []frame
	input   []int32 // what has not been read
	fuel    int
	limit   int // what may have been used when this turn is over
	outcome api.Outcome
	over    bool
	waits   bool // for its next turn
}

func (m *Machine) end(how api.Errno) {
	m.outcome.Code = how
	m.over = true
}

// part takes the next word: what to do, or a part of that.
func (m *Machine) part() int {
	word := m.words[m.next]
	m.next++
	return word
}

func (m *Machine) push(value int32) {
	m.stack = append(m.stack, value)
}

func (m *Machine) pop() int32 {
	last := len(m.stack) - 1
	value := m.stack[last]
	m.stack = m.stack[:last]
	return value
}

func (m *Machine) step() {
	switch op := m.part(); op {
	case code.End:
		m.end(api.OK)
	case code.Unit:
		m.unit()
	case code.Push:
		m.push(int32(m.part()))
	case code.Get:
		m.push(m.places[m.part()])
	case code.Set:
		m.places[m.part()] = m.pop()
	case code.GetLocal:
		m.push(m.stack[m.base+m.part()])
	case code.SetLocal:
		value := m.pop()
		m.stack[m.base+m.part()] = value
	case code.Find:
		m.find(m.part(), m.part())
	case code.GetAt:
		m.push(m.places[m.pop()])
	case code.SetAt:
		value := m.pop()
		m.places[m.pop()] = value
	case code.Jump:
		m.next = m.part()
	case code.Unless:
		m.unless(m.part())
	case code.Call:
		m.call(m.part(), m.part())
	case code.Enter:
		m.stack = append(m.stack, make([]int32, m.part())...)
	case code.Leave:
		m.leave()
	case code.LeaveWith:
		result := m.stack[m.base+m.part()]
		m.leave()
		m.push(result)
	case code.Write:
		m.write(m.pop())
	case code.Read:
		m.read()
	default:
		m.operate(op)
	}
}

// unit looks at the fuel ahead of the turn: who has used up both ends.
func (m *Machine) unit() {
	switch {
	case m.outcome.Used == m.fuel:
		m.end(api.ErrFuel)
	case m.outcome.Used == m.limit:
		m.wait()
	default:
		m.outcome.Used++
	}
}

// wait goes back to the word that told of the unit, as that is still due when the next turn begins.
func (m *Machine) wait() {
	m.next--
	m.waits = true
}

func (m *Machine) find(first, size int) {
	index := int(m.pop())
	if index < 0 || index >= size {
		m.end(api.ErrIndex)
		return
	}
	m.push(int32(first + index))
}

func (m *Machine) unless(to int) {
	if m.pop() == 0 {
		m.next = to
	}
}

// call lets the frame begin with the arguments, which are on the stack already.
func (m *Machine) call(to, args int) {
	if len(m.calls) == api.MaxCalls {
		m.end(api.ErrCalls)
		return
	}
	m.calls = append(m.calls, frame{next: m.next, base: m.base})
	m.base = len(m.stack) - args
	m.next = to
}

func (m *Machine) leave() {
	last := len(m.calls) - 1
	m.stack = m.stack[:m.base]
	m.next, m.base = m.calls[last].next, m.calls[last].base
	m.calls = m.calls[:last]
}

func (m *Machine) write(value int32) {
	if len(m.outcome.Out) == api.MaxOut {
		m.end(api.ErrOut)
		return
	}
	m.outcome.Out = append(m.outcome.Out, int(value))
}

func (m *Machine) read() {
	if len(m.input) == 0 {
		m.end(api.ErrInput)
		return
	}
	m.push(m.input[0])
	m.input = m.input[1:]
}
