package lectern

import (
	"math/rand"
	"regexp"
	"strconv"
	"strings"
	"testing"

	"lectern/api"
)

// The oracle answers what Check must, in another way: tokens by a regular expression, the grammar as a table (with the depth as a part of its names), names by the tokens that stand beside them.

type piece struct {
	kind, text string // the kind is NAME, NUMBER, STOP, or the text itself
	at         int
}

func oracle(rules map[string][][]string, text string) (api.Errno, int) {
	if len(text) > api.MaxText {
		return api.ErrLong, 0
	}
	pieces, code, at := cut(text)
	if code == api.OK {
		code, at = derive(rules, pieces)
	}
	if code == api.OK {
		code, at = lookAround(pieces)
	}
	return code, at
}

var (
	gapForm   = regexp.MustCompile(`^([ \n]|\{[^}]*\})+`)
	tokenForm = regexp.MustCompile(`^([a-z][a-z0-9]*|[0-9]+|:=|[-+*/%=#<>()\[\],;.])`)
	keyForm   = regexp.MustCompile(`^(var|proc|func|begin|end|if|then|else|while|do|write|read|and|or|not)$`)
)

func cut(text string) ([]piece, api.Errno, int) {
	var pieces []piece
	at := 0
	for {
		at += len(gapForm.FindString(text[at:]))
		if at == len(text) {
			return append(pieces, piece{"STOP", "", at}), api.OK, 0
		}
		token := tokenForm.FindString(text[at:])
		if token == "" {
			return nil, api.ErrToken, at
		}
		kind := token
		if token[0] >= '0' && token[0] <= '9' {
			kind = "NUMBER"
			if _, err := strconv.ParseInt(token, 10, 32); err != nil {
				return nil, api.ErrNumber, at
			}
		} else if token[0] >= 'a' && token[0] <= 'z' && !keyForm.MatchString(token) {
			kind = "NAME"
		}
		pieces = append(pieces, piece{kind, token, at})
		at += len(token)
	}
}

const grammar = `
program = globals begin list/1 end . STOP
globals = | global globals
global = var item items ; | proc NAME ( params ) locals begin list/1 end ; | func NAME ( params ) locals begin list/1 end ;
item = NAME | NAME [ NUMBER ]
items = | , item items
params = | NAME names
names = | , NAME names
locals = | var NAME names ; locals`

const deepGrammar = `
list/D = maybe/D more/D
maybe/D = | statement/D
more/D = | ; maybe/D more/D
statement/D = read NAME | NAME ( args/E ) | NAME := expr/E | NAME [ expr/E ] := expr/E | if expr/E then statement/E other/E | while expr/E do statement/E | begin list/E end | write expr/E
other/D = | else statement/D
args/D = | expr/D rest/D
rest/D = | , expr/D rest/D
expr/D = and/D ors/D
ors/D = | or and/D ors/D
and/D = test/D ands/D
ands/D = | and test/D ands/D
test/D = sum/D held/D
held/D = | = sum/D | # sum/D | < sum/D | > sum/D
sum/D = term/D terms/D
terms/D = | + term/D terms/D | - term/D terms/D
term/D = factor/D factors/D
factors/D = | * factor/D factors/D | / factor/D factors/D | % factor/D factors/D
factor/D = NUMBER | NAME | NAME [ expr/E ] | NAME ( args/E ) | ( expr/E ) | - factor/E | not factor/E`

// makeRules: the first way of each rule is one that ends soon.
func makeRules() map[string][][]string {
	rules := map[string][][]string{}
	addRules(rules, grammar)
	for depth := 1; depth <= api.MaxDeep+1; depth++ {
		addRules(rules, strings.NewReplacer("/D", "/"+strconv.Itoa(depth), "/E", "/"+strconv.Itoa(depth+1)).Replace(deepGrammar))
	}
	tooDeep := "/" + strconv.Itoa(api.MaxDeep+1)
	rules["statement"+tooDeep] = [][]string{{"DEEP"}}
	rules["factor"+tooDeep] = [][]string{{"DEEP"}}
	return rules
}

func addRules(rules map[string][][]string, lines string) {
	for _, line := range strings.Split(strings.TrimSpace(lines), "\n") {
		name, ways, _ := strings.Cut(line, " = ")
		for _, way := range strings.Split(ways, "|") {
			rules[name] = append(rules[name], strings.Fields(way))
		}
	}
}

// derive keeps all stacks of symbols that are still to come.
func derive(rules map[string][][]string, pieces []piece) (api.Errno, int) {
	stacks := map[string][]string{"program": {"program"}}
	for _, p := range pieces {
		tops := map[string][]string{}
		for _, stack := range stacks {
			expand(rules, stack, tops)
		}
		stacks = map[string][]string{}
		code := api.ErrSyntax
		for _, stack := range tops {
			switch stack[0] {
			case p.kind:
				stacks[strings.Join(stack[1:], " ")] = stack[1:]
			case "DEEP":
				code = api.ErrDeep
			}
		}
		if len(stacks) == 0 {
			return code, p.at
		}
	}
	return api.OK, 0
}

// expand adds all stacks with a token on top that a stack may become.
func expand(rules map[string][][]string, stack []string, tops map[string][]string) {
	if len(stack) == 0 {
		return
	}
	ways, known := rules[stack[0]]
	if !known {
		tops[strings.Join(stack, " ")] = stack
		return
	}
	for _, way := range ways {
		expand(rules, append(append([]string{}, way...), stack[1:]...), tops)
	}
}

type meaning struct {
	kind string
	args int
}

// scopes: inner is nil outside of a proc or func; own is the piece of its name.
type scopes struct {
	outer, inner map[string]meaning
	own          piece
}

func (s *scopes) declare(p piece, m meaning, local bool) bool {
	place := s.outer
	if local {
		place = s.inner
	}
	if _, known := place[p.text]; known {
		return false
	}
	place[p.text] = m
	return true
}

func (s *scopes) find(p piece) meaning {
	if m, known := s.inner[p.text]; known {
		return m
	}
	return s.outer[p.text]
}

func lookAround(pieces []piece) (api.Errno, int) {
	s := &scopes{outer: map[string]meaning{}}
	section, level := "", 0
	for i, p := range pieces {
		switch p.text {
		case "var", "proc", "func":
			section = p.text
		case "begin":
			section, level = "", level+1
		case "end":
			if level--; level == 0 {
				s.inner = nil
			}
		}
		code, at := api.OK, p.at
		switch {
		case p.kind == "NUMBER" && section == "var":
			if n, _ := strconv.Atoi(p.text); n < 1 || n > api.MaxArray {
				code = api.ErrNumber
			}
		case p.kind == "NAME" && section != "":
			code = s.lookDeclared(pieces, i, section)
		case p.kind == "NAME":
			code = s.lookUsed(pieces, i)
		}
		if code != api.OK {
			return code, at
		}
	}
	return api.OK, 0
}

func (s *scopes) lookDeclared(pieces []piece, i int, section string) api.Errno {
	p, before, behind := pieces[i], pieces[i-1].text, pieces[i+1].text
	m := meaning{kind: "var"}
	head := before == "proc" || before == "func"
	switch {
	case head:
		m = meaning{before, countArgs(pieces[i+1:])}
		s.own = piece{before, p.text, p.at}
	case behind == "[":
		m.kind = "array"
	}
	local := !head && s.inner != nil
	if !s.declare(p, m, local) {
		return api.ErrName
	}
	if head {
		s.inner = map[string]meaning{}
		if m.args > api.MaxArgs {
			return api.ErrArgs
		}
	}
	return api.OK
}

func (s *scopes) lookUsed(pieces []piece, i int) api.Errno {
	p, before, behind := pieces[i], pieces[i-1].text, pieces[i+1].text
	m, want := s.find(p), "var"
	switch behind {
	case "[":
		want = "array"
	case "(":
		want = "func"
		if strings.Contains(" begin ; then else do ", " "+before+" ") {
			want = "proc"
		}
	case ":=":
		if m.kind == "func" && s.inner != nil && s.own.text == p.text {
			return api.OK
		}
	}
	if m.kind != want {
		return api.ErrName
	}
	if behind == "(" && m.args != countArgs(pieces[i+1:]) {
		return api.ErrArgs
	}
	return api.OK
}

// countArgs counts what stands between a ( and its own ).
func countArgs(pieces []piece) int {
	if pieces[1].text == ")" {
		return 0
	}
	count, level := 1, 0
	for _, p := range pieces {
		switch p.text {
		case "(", "[":
			level++
		case ")", "]":
			level--
		case ",":
			if level == 1 {
				count++
			}
		}
		if level == 0 {
			break
		}
	}
	return count
}

func TestOracle(t *testing.T) {
	m := &maker{rand.New(rand.NewSource(1)), makeRules()}
	told := map[api.Errno]int{}
	for range 6000 {
		text := m.text()
		code, at := oracle(m.rules, text)
		told[code]++
		wantCheck(t, text, code, at)
	}
	for code := api.OK; code <= api.ErrArgs; code++ {
		if told[code] < 20 {
			t.Errorf("only %d of the texts have the answer %d: too few to tell", told[code], code)
		}
	}
}
