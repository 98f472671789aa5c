package lectern

import (
	"math"
	"math/rand"
	"strconv"
	"strings"

	"lectern/api"
)

// programmer makes programs, the same ones at each run of the tests. Most of them have no fault that Check tells.
type programmer struct {
	*rand.Rand
	variables []string // that are known where it is
	targets   []string // that may be set
	procs     []string // each with its number of parameters behind it
	funcs     []string
}

func (p *programmer) pick(all ...string) string { return all[p.Intn(len(all))] }

func (p *programmer) text() string {
	p.variables, p.targets = []string{"a", "b", "c"}, []string{"a", "b", "c"}
	p.procs, p.funcs = nil, nil
	var out strings.Builder
	out.WriteString("var a, b, c, d[3], e[1], h[20]; ")
	for i := range p.Intn(4) {
		out.WriteString(p.routine(string("fgpq"[i])))
	}
	out.WriteString("begin " + p.list(3) + "; write a; write b; write c; write d[0] - d[1] * 3 + d[2] * 7 end.")
	return out.String()
}

func (p *programmer) routine(name string) string {
	kind := p.pick("proc", "func", "func")
	params := []string{"x", "b", "y", "z"}[:p.Intn(3)+p.Intn(2)]
	locals := []string{"u", "c"}[:p.Intn(3)]
	known := name + strconv.Itoa(len(params))
	head := kind + " " + name + "(" + strings.Join(params, ", ") + ") "
	variables, targets := p.variables, p.targets
	if len(locals) > 0 {
		head += "var " + strings.Join(locals, ", ") + "; "
	}
	p.variables = append(append(append([]string{}, params...), locals...), "a")
	p.targets = p.variables
	if kind == "func" {
		p.funcs = append(p.funcs, known)
		p.targets = append(append([]string{}, p.variables...), name, name)
	} else {
		p.procs = append(p.procs, known)
	}
	body := p.list(2)
	p.variables, p.targets = variables, targets
	return head + "begin " + body + " end; "
}

func (p *programmer) list(deep int) string {
	var all []string
	for range p.Intn(4) + 1 {
		all = append(all, p.statement(deep))
	}
	return strings.Join(all, "; ")
}

func (p *programmer) statement(deep int) string {
	switch n := p.Intn(16); {
	case deep > 0 && n < 2:
		return "if " + p.expr(2) + " then " + p.statement(deep-1)
	case deep > 0 && n < 4:
		return "if " + p.expr(2) + " then " + p.statement(deep-1) + " else " + p.statement(deep-1)
	case deep > 0 && n < 6:
		return p.loop(deep)
	case deep > 0 && n < 7:
		return "begin " + p.list(deep-1) + " end"
	case n < 8:
		return p.place() + " := " + p.expr(2)
	case n < 9:
		return "read " + p.pick(p.variables...)
	case n < 12 && len(p.procs) > 0:
		return p.call(p.pick(p.procs...), 1)
	case n < 14:
		return p.pick(p.targets...) + " := " + p.expr(2)
	}
	return "write " + p.expr(2)
}

// loop is mostly one that comes to an end some time.
func (p *programmer) loop(deep int) string {
	if p.Intn(4) == 0 {
		return "while " + p.expr(1) + " do " + p.statement(deep-1)
	}
	name := p.pick(p.variables...)
	return "while " + name + " < " + p.pick("2", "5", "20", "90", "200") + " do begin " + name + " := " + name + " + 1; " + p.pick("", "write a; ") + p.statement(deep-1) + " end"
}

// place is mostly one that there is.
func (p *programmer) place() string {
	switch p.Intn(6) {
	case 0:
		return p.pick("d[-1]", "d[3]", "e[1]", "h[20]", "d[2147483647]")
	case 1:
		return "d[(" + p.expr(1) + ") % 3]"
	}
	return p.pick("d[0]", "d[1]", "d[2]", "e[0]", "h[0]", "h[19]")
}

func (p *programmer) call(known string, deep int) string {
	name, count := known[:1], int(known[1]-'0')
	var args []string
	for range count {
		args = append(args, p.expr(deep))
	}
	return name + "(" + strings.Join(args, ", ") + ")"
}

func (p *programmer) expr(deep int) string {
	n := p.Intn(14)
	if deep == 0 || n < 4 {
		return p.pick(append([]string{"0", "1", "2", "3", "7", "65536", "2147483647"}, p.variables...)...)
	}
	switch {
	case n < 5:
		return p.pick("-", "not ") + p.expr(deep-1)
	case n < 6:
		return "(" + p.expr(deep) + ")"
	case n < 8:
		return p.place()
	case n < 10 && len(p.funcs) > 0:
		return p.call(p.pick(p.funcs...), deep-1)
	case n < 11:
		return p.expr(deep-1) + p.pick(" and ", " or ") + p.expr(deep-1)
	case n < 12:
		return "(" + p.expr(deep-1) + p.pick(" = ", " # ", " < ", " > ") + p.expr(deep-1) + ")"
	}
	return p.expr(deep-1) + p.pick(" + ", " + ", " - ", " - ", " * ", " * ", " / ", " % ") + p.expr(deep-1)
}

func (p *programmer) input() []int {
	values := []int{0, 1, -1, 2, 3, -7, 100, 65536, math.MaxInt32, math.MinInt32}
	var input []int
	for range p.Intn(5) {
		input = append(input, values[p.Intn(len(values))])
	}
	return input
}

func (p *programmer) fuel() int {
	if p.Intn(3) == 0 {
		return p.Intn(30)
	}
	return p.Intn(api.MaxFuel + 1)
}
