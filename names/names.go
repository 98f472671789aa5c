// Package names looks at the names of a program.
package names

import (
	"lectern/api"
	"lectern/fault"
	"lectern/tree"
)

// Look tells the first fault of a name, of a number of arguments or of an array's size, and its place.
func Look(program tree.Program) (api.Errno, int) {
	l := &looker{globals: map[string]symbol{}}
	for _, g := range program.Globals {
		l.global(g)
	}
	l.list(program.Body)
	return l.Code, l.At
}

type kind int

// The kinds of names; a name that is not known has the kind unknown.
const (
	unknown kind = iota
	variable
	array
	procedure
	function
)

// symbol is what is known of a name. Params is how many a proc or func has.
type symbol struct {
	kind   kind
	params int
}

// looker goes over the tree in the order of the text, so that the first fault it tells is the one furthest ahead.
type looker struct {
	fault.First
	globals map[string]symbol
	locals  map[string]symbol // nil outside of a proc or func
	result  string            // the func in whose body it is, or ""
}

func (l *looker) global(g tree.Global) {
	switch g := g.(type) {
	case tree.Var:
		l.declare(l.globals, g.Name, symbol{kind: variable})
	case tree.Array:
		l.declare(l.globals, g.Name, symbol{kind: array})
		if g.Size < 1 || g.Size > api.MaxArray {
			l.Tell(api.ErrNumber, g.SizeAt)
		}
	case tree.Proc:
		l.routine(g.Routine, procedure, "")
	case tree.Func:
		l.routine(g.Routine, function, g.Name.Text)
	}
}

// declare comes ahead of any other look at the same name: of two faults there ErrName is the one to tell.
func (l *looker) declare(place map[string]symbol, name tree.Name, s symbol) {
	if place[name.Text].kind != unknown {
		l.Tell(api.ErrName, name.At)
	}
	place[name.Text] = s
}

func (l *looker) routine(r tree.Routine, k kind, result string) {
	l.declare(l.globals, r.Name, symbol{kind: k, params: len(r.Params)})
	if len(r.Params) > api.MaxArgs {
		l.Tell(api.ErrArgs, r.Name.At)
	}
	l.locals, l.result = map[string]symbol{}, result
	for _, name := range r.Params {
		l.declare(l.locals, name, symbol{kind: variable})
	}
	for _, name := range r.Locals {
		l.declare(l.locals, name, symbol{kind: variable})
	}
	l.list(r.Body)
	l.locals, l.result = nil, ""
}

// find answers what a name means here: locals go ahead of globals.
func (l *looker) find(name tree.Name) symbol {
	if s := l.locals[name.Text]; s.kind != unknown {
		return s
	}
	return l.globals[name.Text]
}

func (l *looker) want(name tree.Name, k kind) {
	if l.find(name).kind != k {
		l.Tell(api.ErrName, name.At)
	}
}

// wantTarget lets a func's own name pass in its body: it is the result there, or else a local that hides it, which is a variable.
func (l *looker) wantTarget(name tree.Name) {
	if name.Text != l.result {
		l.want(name, variable)
	}
}

// call looks at the name and the number of its arguments ahead of the arguments, as the name stands ahead of them.
func (l *looker) call(name tree.Name, args []tree.Expr, k kind) {
	l.want(name, k)
	if l.find(name).params != len(args) {
		l.Tell(api.ErrArgs, name.At)
	}
	for _, arg := range args {
		l.expr(arg)
	}
}

func (l *looker) list(list []tree.Statement) {
	for _, s := range list {
		l.statement(s)
	}
}

func (l *looker) statement(s tree.Statement) {
	switch s := s.(type) {
	case tree.Assign:
		l.wantTarget(s.Name)
		l.expr(s.Value)
	case tree.AssignAt:
		l.want(s.Array, array)
		l.expr(s.Index)
		l.expr(s.Value)
	case tree.CallProc:
		l.call(s.Name, s.Args, procedure)
	case tree.If:
		l.expr(s.Test)
		l.statement(s.Then)
		l.statement(s.Else)
	case tree.While:
		l.expr(s.Test)
		l.statement(s.Body)
	case tree.Block:
		l.list(s.List)
	case tree.Write:
		l.expr(s.Value)
	case tree.Read:
		l.want(s.Name, variable)
	}
}

func (l *looker) expr(e tree.Expr) {
	switch e := e.(type) {
	case tree.Variable:
		l.want(e.Name, variable)
	case tree.Element:
		l.want(e.Array, array)
		l.expr(e.Index)
	case tree.CallFunc:
		l.call(e.Name, e.Args, function)
	case tree.Binary:
		l.expr(e.Left)
		l.expr(e.Right)
	case tree.Unary:
		l.expr(e.Operand)
	}
}
