// Package parse makes a tree of tokens, by the grammar and the rule of depth.
package parse

import (
	"lectern/api"
	"lectern/fault"
	"lectern/scan"
	"lectern/tree"
)

// Program answers the tree of a program; or else ErrSyntax or ErrDeep, whichever stands first, and its place. The last token must be the scan.End.
func Program(tokens []scan.Token) (tree.Program, api.Errno, int) {
	p := &parser{tokens: tokens}
	program := p.program()
	if p.Code != api.OK {
		return tree.Program{}, p.Code, p.At
	}
	return program, api.OK, 0
}

type parser struct {
	fault.First
	tokens []scan.Token
	next   int
}

func (p *parser) token() scan.Token { return p.tokens[p.next] }

// fail tells a fault at the token that is next, and goes to the End: as that is never taken, everything that is under way finds nothing more and comes to its own end.
func (p *parser) fail(code api.Errno) {
	p.Tell(code, p.token().At)
	p.next = len(p.tokens) - 1
}

func (p *parser) sees(fixed string) bool { return p.token().Text == fixed }

func (p *parser) take(fixed string) bool {
	if !p.sees(fixed) {
		return false
	}
	p.next++
	return true
}

func (p *parser) want(fixed string) {
	if !p.take(fixed) {
		p.fail(api.ErrSyntax)
	}
}

// wantKind takes a name or a number.
func (p *parser) wantKind(kind scan.Kind) scan.Token {
	t := p.token()
	if t.Kind != kind {
		p.fail(api.ErrSyntax)
		return scan.Token{}
	}
	p.next++
	return t
}

func (p *parser) name() tree.Name {
	t := p.wantKind(scan.Name)
	return tree.Name{Text: t.Text, At: t.At}
}

func (p *parser) program() tree.Program {
	globals := p.globals()
	body := p.body()
	p.want(".")
	if p.token().Kind != scan.End {
		p.fail(api.ErrSyntax)
	}
	return tree.Program{Globals: globals, Body: body}
}

func (p *parser) globals() []tree.Global {
	var all []tree.Global
	for {
		switch {
		case p.take("var"):
			all = append(all, p.items()...)
		case p.take("proc"):
			all = append(all, tree.Proc{Routine: p.routine()})
		case p.take("func"):
			all = append(all, tree.Func{Routine: p.routine()})
		default:
			return all
		}
	}
}

func (p *parser) items() []tree.Global {
	all := []tree.Global{p.item()}
	for p.take(",") {
		all = append(all, p.item())
	}
	p.want(";")
	return all
}

func (p *parser) item() tree.Global {
	name := p.name()
	if !p.take("[") {
		return tree.Var{Name: name}
	}
	size := p.wantKind(scan.Number)
	p.want("]")
	return tree.Array{Name: name, Size: size.Value, SizeAt: size.At}
}

func (p *parser) routine() tree.Routine {
	name := p.name()
	p.want("(")
	var params, locals []tree.Name
	if !p.sees(")") {
		params = p.names()
	}
	p.want(")")
	for p.take("var") {
		locals = append(locals, p.names()...)
		p.want(";")
	}
	body := p.body()
	p.want(";")
	return tree.Routine{Name: name, Params: params, Locals: locals, Body: body}
}

func (p *parser) names() []tree.Name {
	all := []tree.Name{p.name()}
	for p.take(",") {
		all = append(all, p.name())
	}
	return all
}

func (p *parser) body() []tree.Statement {
	p.want("begin")
	list := p.list(1)
	p.want("end")
	return list
}
