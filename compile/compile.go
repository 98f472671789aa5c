// Package compile makes code of a tree.
package compile

import (
	"lectern/code"
	"lectern/tree"
)

// Program answers the code of a program in which names.Look finds no fault.
func Program(program tree.Program) code.Program {
	m := &maker{globals: map[string]global{}}
	for _, g := range program.Globals {
		m.global(g)
	}
	start := len(m.words)
	m.list(program.Body)
	m.lay(code.End)
	return code.Program{Words: m.words, Start: start, Places: m.places}
}

// global is what a global name stands for: at is the first place of a variable or an array, or where a proc or func begins.
type global struct {
	at   int
	size int
}

type maker struct {
	words   []int
	places  int // how many the globals take so far
	globals map[string]global
	locals  map[string]int // places in the frame of the proc or func in whose body it is
	result  string         // the func in whose body it is, or ""
}

// lay lays down an instruction with as many parts as it has, and answers where it stands.
func (m *maker) lay(parts ...int) int {
	at := len(m.words)
	m.words = append(m.words, parts...)
	return at
}

// unknown stands for where a jump goes to until aim tells it.
const unknown = -1

// aim lets the jump that stands there go to what is laid down next.
func (m *maker) aim(jump int) {
	m.words[jump+1] = len(m.words)
}

func (m *maker) global(g tree.Global) {
	switch g := g.(type) {
	case tree.Var:
		m.reserve(g.Name, 1)
	case tree.Array:
		m.reserve(g.Name, g.Size)
	case tree.Proc:
		m.proc(g)
	case tree.Func:
		m.function(g)
	}
}

func (m *maker) reserve(name tree.Name, size int) {
	m.globals[name.Text] = global{at: m.places, size: size}
	m.places += size
}

// begin makes the name known ahead of the body, which may call it.
func (m *maker) begin(r tree.Routine) {
	m.globals[r.Name.Text] = global{at: len(m.words)}
	m.locals = map[string]int{}
	for _, name := range r.Params {
		m.locals[name.Text] = len(m.locals)
	}
	for _, name := range r.Locals {
		m.locals[name.Text] = len(m.locals)
	}
}

func (m *maker) proc(p tree.Proc) {
	m.begin(p.Routine)
	m.lay(code.Enter, len(p.Locals))
	m.list(p.Body)
	m.lay(code.Leave)
	m.locals = nil
}

// function lays the unit of a call at the head of its body: there the arguments have been worked out, and the calls counted.
func (m *maker) function(f tree.Func) {
	m.begin(f.Routine)
	m.result = f.Name.Text
	m.lay(code.Unit)
	m.lay(code.Enter, len(f.Locals)+1)
	m.list(f.Body)
	m.lay(code.LeaveWith, m.resultPlace())
	m.locals, m.result = nil, ""
}

// resultPlace is the one behind the parameters and locals.
func (m *maker) resultPlace() int { return len(m.locals) }

// set gives a variable or a result the value on the stack. A local that has the func's name goes ahead of the result.
func (m *maker) set(name tree.Name) {
	at, local := m.locals[name.Text]
	switch {
	case local:
		m.lay(code.SetLocal, at)
	case name.Text == m.result:
		m.lay(code.SetLocal, m.resultPlace())
	default:
		m.lay(code.Set, m.globals[name.Text].at)
	}
}

func (m *maker) get(name tree.Name) {
	if at, local := m.locals[name.Text]; local {
		m.lay(code.GetLocal, at)
		return
	}
	m.lay(code.Get, m.globals[name.Text].at)
}

func (m *maker) find(array tree.Name, index tree.Expr) {
	m.expr(index)
	m.lay(code.Find, m.globals[array.Text].at, m.globals[array.Text].size)
}

func (m *maker) call(name tree.Name, args []tree.Expr) {
	for _, arg := range args {
		m.expr(arg)
	}
	m.lay(code.Call, m.globals[name.Text].at, len(args))
}
