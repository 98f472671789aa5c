package machine

import (
	"math"
	"slices"
	"testing"

	"lectern/api"
	"lectern/code"
)

func wantRun(t *testing.T, program code.Program, input []int32, fuel int, want api.Outcome) {
	t.Helper()
	words, numbers := slices.Clone(program.Words), slices.Clone(input)
	got, over := New(program, input, fuel).GoOn(fuel)
	if !same(got, want) || !over {
		t.Errorf("P4: %v over %v with %d: %v, %v, want %v", program, input, fuel, got, over, want)
	}
	if !slices.Equal(program.Words, words) || !slices.Equal(input, numbers) {
		t.Errorf("P2: %v over %v became %v over %v", words, numbers, program.Words, input)
	}
}

func same(a, b api.Outcome) bool {
	return a.Code == b.Code && a.Used == b.Used && slices.Equal(a.Out, b.Out)
}

func words(parts ...int) code.Program { return code.Program{Words: parts, Places: 3} }

func done(out ...int) api.Outcome { return api.Outcome{Out: out} }

func TestOperations(t *testing.T) {
	for _, c := range []struct{ op, left, right, want int }{
		{code.Add, 2, 3, 5},
		{code.Add, math.MaxInt32, 1, math.MinInt32},
		{code.Subtract, 2, 3, -1},
		{code.Subtract, math.MinInt32, 1, math.MaxInt32},
		{code.Multiply, -2, 3, -6},
		{code.Multiply, math.MinInt32, -1, math.MinInt32},
		{code.Divide, -7, 2, -3},
		{code.Divide, math.MinInt32, -1, math.MinInt32},
		{code.Remain, -7, 2, -1},
		{code.Remain, 7, -2, 1},
		{code.Remain, math.MinInt32, -1, 0},
		{code.Equal, 3, 3, 1},
		{code.Equal, 3, 4, 0},
		{code.Differ, 3, 3, 0},
		{code.Differ, 3, 4, 1},
		{code.Less, 3, 3, 0},
		{code.Less, math.MinInt32, math.MaxInt32, 1},
		{code.Greater, 3, 3, 0},
		{code.Greater, math.MaxInt32, math.MinInt32, 1},
	} {
		wantRun(t, words(code.Push, c.left, code.Push, c.right, c.op, code.Write, code.End), nil, 0, done(c.want))
	}
	for _, c := range []struct{ op, value, want int }{
		{code.Negate, 5, -5},
		{code.Negate, math.MinInt32, math.MinInt32},
		{code.Not, 0, 1},
		{code.Not, -1, 0},
		{code.Truth, 0, 0},
		{code.Truth, -1, 1},
	} {
		wantRun(t, words(code.Push, c.value, c.op, code.Write, code.End), nil, 0, done(c.want))
	}
}

func TestPlaces(t *testing.T) {
	wantRun(t, words(code.Push, 8, code.Set, 2, code.Get, 2, code.Write, code.Get, 1, code.Write, code.End), nil, 0, done(8, 0))
	wantRun(t, words(code.Push, 1, code.Find, 1, 2, code.Push, 8, code.SetAt, code.Get, 2, code.Write, code.Push, 0, code.Find, 2, 1, code.GetAt, code.Write, code.End), nil, 0, done(8, 8))
	for _, index := range []int{-1, 2, math.MinInt32, math.MaxInt32} {
		wantRun(t, words(code.Push, index, code.Find, 1, 2, code.GetAt, code.Write, code.End), nil, 0, api.Outcome{Code: api.ErrIndex})
	}
}

func TestJumps(t *testing.T) {
	wantRun(t, words(code.Jump, 3, code.End, code.Push, 4, code.Write, code.End), nil, 0, done(4))
	wantRun(t, words(code.Push, 0, code.Unless, 5, code.End, code.Push, 4, code.Write, code.End), nil, 0, done(4))
	wantRun(t, words(code.Push, -1, code.Unless, 5, code.End, code.Push, 4, code.Write, code.End), nil, 0, done())
	wantRun(t, words(code.Unit, code.Jump, 0), nil, 7, api.Outcome{Code: api.ErrFuel, Used: 7})
}

func TestInputAndOutput(t *testing.T) {
	wantRun(t, words(code.Read, code.Read, code.Write, code.Write, code.End), []int32{5, math.MinInt32}, 0, done(math.MinInt32, 5))
	wantRun(t, words(code.Read, code.Write, code.Read, code.Write, code.End), []int32{5}, 0, api.Outcome{Code: api.ErrInput, Out: []int{5}})
	wantRun(t, words(code.Push, 6, code.Write, code.Jump, 0), nil, 0, api.Outcome{Code: api.ErrOut, Out: slices.Repeat([]int{6}, api.MaxOut)})
	wantRun(t, words(code.Push, 6, code.Push, 0, code.Divide, code.Write, code.End), nil, 0, api.Outcome{Code: api.ErrDiv})
	wantRun(t, words(code.Push, 6, code.Push, 0, code.Remain, code.Write, code.End), nil, 0, api.Outcome{Code: api.ErrDiv})
}

// TestCalls: a call takes its own arguments and locals from the stack, and nothing below them.
func TestCalls(t *testing.T) {
	body := []int{code.Enter, 1, code.GetLocal, 0, code.GetLocal, 1, code.Subtract, code.GetLocal, 2, code.Add, code.SetLocal, 2}
	start := len(body) + 2
	program := code.Program{Start: start, Words: slices.Concat(body, []int{code.LeaveWith, 2, code.Push, 7, code.Push, 9, code.Push, 4, code.Call, 0, 2, code.Write, code.Write, code.End})}
	wantRun(t, program, nil, 0, done(5, 7))
	program = code.Program{Start: 6, Words: []int{code.Enter, 2, code.Push, 3, code.Write, code.Leave, code.Push, 7, code.Push, 9, code.Call, 0, 1, code.Write, code.End}}
	wantRun(t, program, nil, 0, done(3, 7))
	wantRun(t, words(code.Unit, code.Call, 0, 0), nil, 99, api.Outcome{Code: api.ErrCalls, Used: api.MaxCalls + 1})
}

func wantTurn(t *testing.T, m *Machine, units int, over bool, code api.Errno, used int, out ...int) {
	t.Helper()
	want := api.Outcome{Code: code, Used: used, Out: out}
	if got, gotOver := m.GoOn(units); !same(got, want) || gotOver != over {
		t.Errorf("P5: a turn of %d: %v, %v, want %v, %v", units, got, gotOver, want, over)
	}
}

// TestTurns: what a turn begins goes on up to the next unit, and what has ended stays so.
func TestTurns(t *testing.T) {
	three := words(code.Unit, code.Push, 7, code.Write, code.Unit, code.Push, 8, code.Write, code.Unit, code.Push, 9, code.Write, code.End)
	m := New(three, nil, 9)
	wantTurn(t, m, 0, false, api.OK, 0)
	wantTurn(t, m, 1, false, api.OK, 1, 7)
	wantTurn(t, m, 0, false, api.OK, 1, 7)
	wantTurn(t, m, 2, true, api.OK, 3, 7, 8, 9)
	wantTurn(t, m, 2, true, api.OK, 3, 7, 8, 9)
	wantTurn(t, New(three, nil, 9), 3, true, api.OK, 3, 7, 8, 9)
	wantTurn(t, New(three, nil, 3), 3, true, api.OK, 3, 7, 8, 9)
	wantTurn(t, New(words(code.End), nil, 0), 1, true, api.OK, 0)
}

// TestTurnsAndFuel: where the fuel and a turn are used up both, it ends.
func TestTurnsAndFuel(t *testing.T) {
	again := words(code.Unit, code.Jump, 0)
	m := New(again, nil, 4)
	wantTurn(t, m, 2, false, api.OK, 2)
	wantTurn(t, m, 2, true, api.ErrFuel, 4)
	wantTurn(t, m, 2, true, api.ErrFuel, 4)
	m = New(again, nil, 5)
	wantTurn(t, m, 4, false, api.OK, 4)
	wantTurn(t, m, 4, true, api.ErrFuel, 5)
	wantTurn(t, New(again, nil, 0), 1, true, api.ErrFuel, 0)
	wantTurn(t, New(words(code.Unit, code.Push, 0, code.Push, 0, code.Divide), nil, 9), 1, true, api.ErrDiv, 1)
}

// TestTurnsOfCalls: the frames of calls, the operands that wait, and the input stay from turn to turn.
func TestTurnsOfCalls(t *testing.T) {
	body := []int{code.Unit, code.Enter, 1, code.GetLocal, 0, code.Read, code.Add, code.SetLocal, 1, code.Unit, code.LeaveWith, 1}
	program := code.Program{Start: len(body), Words: slices.Concat(body, []int{code.Push, 5, code.Push, 40, code.Call, 0, 1, code.Subtract, code.Push, 100, code.Call, 0, 1, code.Add, code.Write, code.End})}
	m := New(program, []int32{2, 3}, 9)
	for used := range 4 {
		wantTurn(t, m, min(used, 1), false, api.OK, used)
	}
	wantTurn(t, m, 1, true, api.OK, 4, 5-42+103)
}

// TestTurnsLeaveLists: a list that a turn answered stays as it is when more is written.
func TestTurnsLeaveLists(t *testing.T) {
	m := New(words(code.Unit, code.Read, code.Write, code.Jump, 0), []int32{1, 2, 3, 4, 5, 6}, 99)
	var told []api.Outcome
	for range 6 {
		outcome, _ := m.GoOn(1)
		told = append(told, outcome)
	}
	for i, outcome := range told {
		if !slices.Equal(outcome.Out, []int{1, 2, 3, 4, 5, 6}[:i+1]) {
			t.Errorf("P2: the list of turn %d became %v", i+1, outcome.Out)
		}
	}
}
