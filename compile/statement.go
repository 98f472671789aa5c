package compile

import (
	"lectern/code"
	"lectern/tree"
)

func (m *maker) list(list []tree.Statement) {
	for _, s := range list {
		m.statement(s)
	}
}

// statement begins with the unit of every statement but a block.
func (m *maker) statement(s tree.Statement) {
	if block, ok := s.(tree.Block); ok {
		m.list(block.List)
		return
	}
	unit := m.lay(code.Unit)
	switch s := s.(type) {
	case tree.Assign:
		m.expr(s.Value)
		m.set(s.Name)
	case tree.AssignAt:
		m.find(s.Array, s.Index)
		m.expr(s.Value)
		m.lay(code.SetAt)
	case tree.CallProc:
		m.call(s.Name, s.Args)
	case tree.If:
		m.choice(s)
	case tree.While:
		m.loop(s, unit)
	case tree.Write:
		m.expr(s.Value)
		m.lay(code.Write)
	case tree.Read:
		m.lay(code.Read)
		m.set(s.Name)
	}
}

func (m *maker) choice(s tree.If) {
	m.expr(s.Test)
	over := m.lay(code.Unless, unknown)
	m.statement(s.Then)
	if s.Else == nil {
		m.aim(over)
		return
	}
	end := m.lay(code.Jump, unknown)
	m.aim(over)
	m.statement(s.Else)
	m.aim(end)
}

// loop goes back to the unit, as one is due each time that the test is to be worked out.
func (m *maker) loop(s tree.While, unit int) {
	m.expr(s.Test)
	over := m.lay(code.Unless, unknown)
	m.statement(s.Body)
	m.lay(code.Jump, unit)
	m.aim(over)
}
