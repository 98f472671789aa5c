package lectern

import (
	"math/rand"
	"strconv"
	"strings"
	"testing"

	"lectern/api"
)

// walker answers what Run must, in another way: it goes along the pieces of a text and works out what it reads on the spot, with neither a tree nor code; what is not to be done it reads past. The text must be a program.
type walker struct {
	pieces   []piece
	at       int
	idle     bool // reading past
	fuel     int
	input    []int
	outcome  api.Outcome
	calls    int
	outer    map[string][]int
	inner    map[string][]int // of the last call
	own      string           // the func of the last call, or ""
	result   int
	routines map[string]routine
}

type routine struct {
	kind           string
	params, locals []string
	body           int
}

// walk takes a panic with an error for the end of the run.
func walk(text string, input []int, fuel int) (o api.Outcome) {
	pieces, _, _ := cut(text)
	w := &walker{pieces: pieces, fuel: fuel, input: input, outer: map[string][]int{}, routines: map[string]routine{}}
	defer func() {
		caught := recover()
		code, ended := caught.(api.Errno)
		if caught != nil && !ended {
			panic(caught)
		}
		o = w.outcome
		o.Code = code
	}()
	w.globals()
	w.list()
	return
}

func (w *walker) text() string { return w.pieces[w.at].text }

func (w *walker) next() string {
	w.at++
	return w.pieces[w.at-1].text
}

func (w *walker) take(text string) bool {
	if w.text() != text {
		return false
	}
	w.at++
	return true
}

// until takes the names up to a sign, and that.
func (w *walker) until(sign string) []string {
	var names []string
	for !w.take(sign) {
		if text := w.next(); text != "," {
			names = append(names, text)
		}
	}
	return names
}

func (w *walker) globals() {
	for !w.take("begin") {
		kind := w.next()
		if kind == "var" {
			w.items()
			continue
		}
		name := w.next()
		w.take("(")
		r := routine{kind: kind, params: w.until(")")}
		for w.take("var") {
			r.locals = append(r.locals, w.until(";")...)
		}
		w.take("begin")
		r.body = w.at
		w.when(false, w.list)
		w.take(";")
		w.routines[name] = r
	}
}

func (w *walker) items() {
	for !w.take(";") {
		w.take(",")
		name, size := w.next(), 1
		if w.take("[") {
			size, _ = strconv.Atoi(w.next())
			w.take("]")
		}
		w.outer[name] = make([]int, size)
	}
}

func (w *walker) when(holds bool, do func()) {
	was := w.idle
	w.idle = was || !holds
	do()
	w.idle = was
}

func (w *walker) stop(code api.Errno, applies bool) {
	if applies && !w.idle {
		panic(code)
	}
}

func (w *walker) unit() {
	w.stop(api.ErrFuel, w.outcome.Used >= w.fuel)
	if !w.idle {
		w.outcome.Used++
	}
}

// list goes on behind a begin, and takes its end.
func (w *walker) list() {
	for !w.take("end") {
		if !w.take(";") {
			w.statement()
		}
	}
}

func (w *walker) statement() {
	word := w.next()
	if word == "begin" {
		w.list()
		return
	}
	w.unit()
	switch word {
	case "if":
		test := w.expr()
		w.take("then")
		w.when(test != 0, w.statement)
		if w.take("else") {
			w.when(test == 0, w.statement)
		}
	case "while":
		w.loop()
	case "write":
		value := w.expr()
		w.stop(api.ErrOut, len(w.outcome.Out) == api.MaxOut)
		if !w.idle {
			w.outcome.Out = append(w.outcome.Out, value)
		}
	case "read":
		name := w.next()
		w.stop(api.ErrInput, len(w.input) == 0)
		if !w.idle {
			w.set(name, w.input[0])
			w.input = w.input[1:]
		}
	default:
		w.named(word)
	}
}

func (w *walker) loop() {
	for start := w.at; ; w.unit() {
		w.at = start
		test := w.expr()
		w.take("do")
		if w.idle || test == 0 {
			w.when(false, w.statement)
			return
		}
		w.statement()
	}
}

func (w *walker) named(name string) {
	switch w.next() {
	case "(":
		w.call(name)
	case ":=":
		w.set(name, w.expr())
	case "[":
		place := w.place(name)
		w.take(":=")
		if value := w.expr(); !w.idle {
			*place = value
		}
	}
}

func (w *walker) set(name string, value int) {
	switch {
	case w.idle:
	case w.inner[name] != nil:
		w.inner[name][0] = value
	case name == w.own:
		w.result = value
	default:
		w.outer[name][0] = value
	}
}

// place goes on behind a [, and takes the ].
func (w *walker) place(name string) *int {
	index := w.expr()
	w.take("]")
	wrong := index < 0 || index >= len(w.outer[name])
	w.stop(api.ErrIndex, wrong)
	if wrong {
		return new(int)
	}
	return &w.outer[name][index]
}

// call goes on behind a (, and answers the result.
func (w *walker) call(name string) int {
	var args []int
	for !w.take(")") {
		w.take(",")
		args = append(args, w.expr())
	}
	if w.idle {
		return 0
	}
	r := w.routines[name]
	w.stop(api.ErrCalls, w.calls == api.MaxCalls)
	back := *w
	w.own, w.result, w.inner = "", 0, map[string][]int{}
	if r.kind == "func" {
		w.unit()
		w.own = name
	}
	for i, param := range r.params {
		w.inner[param] = []int{args[i]}
	}
	for _, local := range r.locals {
		w.inner[local] = []int{0}
	}
	w.calls++
	w.at = r.body
	w.list()
	result := w.result
	w.at, w.own, w.result, w.inner, w.calls = back.at, back.own, back.result, back.inner, back.calls
	return result
}

func (w *walker) expr() int { return w.level(0) }

// level: the signs of a level bind less than those of the next one.
func (w *walker) level(n int) int {
	levels := []string{" or ", " and ", " = # < > ", " + - ", " * / % "}
	if n == len(levels) {
		return w.factor()
	}
	left := w.level(n + 1)
	for strings.Contains(levels[n], " "+w.text()+" ") {
		sign, right := w.next(), 0
		known := sign == "and" && left == 0 || sign == "or" && left != 0
		w.when(!known, func() { right = w.level(n + 1) })
		left = w.join(sign, left, right)
	}
	return left
}

func (w *walker) factor() int {
	word := w.next()
	switch {
	case word == "(":
		value := w.expr()
		w.take(")")
		return value
	case word == "-":
		return wrapped(-w.factor())
	case word == "not":
		return holds(w.factor() == 0)
	case word[0] <= '9':
		value, _ := strconv.Atoi(word)
		return value
	case w.take("("):
		return w.call(word)
	case w.take("["):
		return *w.place(word)
	case w.inner[word] != nil:
		return w.inner[word][0]
	case w.idle:
		return 0
	}
	return w.outer[word][0]
}

func (w *walker) join(sign string, left, right int) int {
	switch sign {
	case "or":
		return holds(left != 0 || right != 0)
	case "and":
		return holds(left != 0 && right != 0)
	case "=":
		return holds(left == right)
	case "#":
		return holds(left != right)
	case "<":
		return holds(left < right)
	case ">":
		return holds(left > right)
	case "+":
		return wrapped(left + right)
	case "-":
		return wrapped(left - right)
	case "*":
		return wrapped(left * right)
	}
	w.stop(api.ErrDiv, right == 0)
	if right == 0 {
		return 0
	}
	quotient := max(left, -left) / max(right, -right)
	if left < 0 != (right < 0) {
		quotient = -quotient
	}
	if sign == "/" {
		return wrapped(quotient)
	}
	return left - quotient*right
}

func holds(is bool) int {
	if is {
		return 1
	}
	return 0
}

// wrapped takes a number modulo 4294967296 into the values.
func wrapped(number int) int {
	const all = 4294967296
	rest := (number%all + all) % all
	if rest > api.MaxNumber {
		rest -= all
	}
	return rest
}

func TestWalker(t *testing.T) {
	p := &programmer{Rand: rand.New(rand.NewSource(1))}
	told := map[api.Errno]int{}
	for range 8000 {
		text, input, fuel := p.text(), p.input(), p.fuel()
		if code, _ := Check(text); code != api.OK {
			told[code]++
			continue
		}
		want := walk(text, input, fuel)
		told[want.Code]++
		wantRun(t, text, input, fuel, want.Code, want.Used, want.Out...)
	}
	for _, code := range []api.Errno{api.OK, api.ErrFuel, api.ErrIndex, api.ErrDiv, api.ErrInput, api.ErrOut, api.ErrCalls} {
		if told[code] < 80 {
			t.Errorf("only %d of the programs end with %d: too few to tell", told[code], code)
		}
	}
}
