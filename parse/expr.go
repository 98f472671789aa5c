package parse

import (
	"slices"

	"lectern/api"
	"lectern/scan"
	"lectern/tree"
)

// expr reads an expression whose own factors have the given depth; so do all parts of it below.
func (p *parser) expr(depth int) tree.Expr {
	return p.chain(p.and, depth, "or")
}

func (p *parser) and(depth int) tree.Expr {
	return p.chain(p.test, depth, "and")
}

func (p *parser) test(depth int) tree.Expr {
	left := p.sum(depth)
	if !p.seesAny("=", "#", "<", ">") {
		return left
	}
	return p.join(left, p.sum, depth)
}

func (p *parser) sum(depth int) tree.Expr {
	return p.chain(p.term, depth, "+", "-")
}

func (p *parser) term(depth int) tree.Expr {
	return p.chain(p.factor, depth, "*", "/", "%")
}

// chain reads parts with any of some signs between them, and joins them from the left.
func (p *parser) chain(part func(int) tree.Expr, depth int, signs ...string) tree.Expr {
	left := part(depth)
	for p.seesAny(signs...) {
		left = p.join(left, part, depth)
	}
	return left
}

func (p *parser) seesAny(signs ...string) bool {
	return slices.Contains(signs, p.token().Text)
}

// join takes the sign that is next, and the part behind it.
func (p *parser) join(left tree.Expr, part func(int) tree.Expr, depth int) tree.Expr {
	sign := p.token().Text
	p.next++
	return tree.Binary{Op: sign, Left: left, Right: part(depth)}
}

func (p *parser) factor(depth int) tree.Expr {
	if p.tooDeep(depth) {
		return nil
	}
	switch {
	case p.token().Kind == scan.Number:
		return tree.Number{Value: p.wantKind(scan.Number).Value}
	case p.token().Kind == scan.Name:
		return p.namedFactor(depth)
	case p.take("("):
		inner := p.expr(depth + 1)
		p.want(")")
		return inner
	case p.take("-"):
		return tree.Unary{Op: "-", Operand: p.factor(depth + 1)}
	case p.take("not"):
		return tree.Unary{Op: "not", Operand: p.factor(depth + 1)}
	}
	p.fail(api.ErrSyntax)
	return nil
}

func (p *parser) namedFactor(depth int) tree.Expr {
	name := p.name()
	switch {
	case p.take("("):
		return tree.CallFunc{Name: name, Args: p.args(depth + 1)}
	case p.take("["):
		return tree.Element{Array: name, Index: p.index(depth + 1)}
	}
	return tree.Variable{Name: name}
}

// args goes on behind the ( of a call.
func (p *parser) args(depth int) []tree.Expr {
	if p.take(")") {
		return nil
	}
	all := []tree.Expr{p.expr(depth)}
	for p.take(",") {
		all = append(all, p.expr(depth))
	}
	p.want(")")
	return all
}

// index goes on behind the [ of an array's place.
func (p *parser) index(depth int) tree.Expr {
	inner := p.expr(depth)
	p.want("]")
	return inner
}
