package parse

import (
	"lectern/api"
	"lectern/scan"
	"lectern/tree"
)

// list reads statements, all of the same depth. Where one may be missing, only a ; or an end shows that it is: at anything else its own fault is told.
func (p *parser) list(depth int) []tree.Statement {
	var all []tree.Statement
	for {
		if !p.sees(";") && !p.sees("end") {
			all = append(all, p.statement(depth))
		}
		if !p.take(";") {
			return all
		}
	}
}

// tooDeep comes ahead of any look at the next token, as ErrDeep goes ahead of ErrSyntax there.
func (p *parser) tooDeep(depth int) bool {
	if depth <= api.MaxDeep {
		return false
	}
	p.fail(api.ErrDeep)
	return true
}

func (p *parser) statement(depth int) tree.Statement {
	if p.tooDeep(depth) {
		return nil
	}
	switch {
	case p.token().Kind == scan.Name:
		return p.named(depth)
	case p.take("if"):
		return p.choice(depth)
	case p.take("while"):
		test := p.expr(depth + 1)
		p.want("do")
		return tree.While{Test: test, Body: p.statement(depth + 1)}
	case p.take("begin"):
		list := p.list(depth + 1)
		p.want("end")
		return tree.Block{List: list}
	case p.take("write"):
		return tree.Write{Value: p.expr(depth + 1)}
	case p.take("read"):
		return tree.Read{Name: p.name()}
	}
	p.fail(api.ErrSyntax)
	return nil
}

// named reads a statement that begins with a name.
func (p *parser) named(depth int) tree.Statement {
	name := p.name()
	switch {
	case p.take("("):
		return tree.CallProc{Name: name, Args: p.args(depth + 1)}
	case p.take("["):
		index := p.index(depth + 1)
		p.want(":=")
		return tree.AssignAt{Array: name, Index: index, Value: p.expr(depth + 1)}
	}
	p.want(":=")
	return tree.Assign{Name: name, Value: p.expr(depth + 1)}
}

// choice goes on behind an if. The first statement has taken each else that it could, so one that is still there belongs here.
func (p *parser) choice(depth int) tree.Statement {
	s := tree.If{Test: p.expr(depth + 1)}
	p.want("then")
	s.Then = p.statement(depth + 1)
	if p.take("else") {
		s.Else = p.statement(depth + 1)
	}
	return s
}
