package lectern

import (
	"math"
	"slices"
	"strings"
	"testing"

	"lectern/api"
)

func wantRun(t *testing.T, text string, input []int, fuel int, code api.Errno, used int, out ...int) {
	t.Helper()
	kept := slices.Clone(input)
	got, fault, at := Run(text, input, fuel)
	if fault != api.OK || at != 0 || got.Code != code || got.Used != used || !slices.Equal(got.Out, out) {
		t.Errorf("P4: Run(%q, %v, %d) = %v, %d, %d, want %d, %v, %d", text, input, fuel, got, fault, at, code, out, used)
	}
	if !slices.Equal(input, kept) {
		t.Errorf("P2: Run(%q, ..) made %v of the input %v", text, input, kept)
	}
}

// wantOut is for runs to the end, where the units are not what is asked.
func wantOut(t *testing.T, text string, out ...int) {
	t.Helper()
	got, fault, at := Run(text, nil, api.MaxFuel)
	if fault != api.OK || at != 0 || got.Code != api.OK || !slices.Equal(got.Out, out) {
		t.Errorf("P4: Run(%q) = %v, %d, %d, want %v", text, got, fault, at, out)
	}
}

const (
	squares   = "var n; begin read n; while n > 0 do begin write n * n; n := n - 1 end end."
	factorial = "func f(n) begin if n < 2 then f := 1 else f := n * f(n - 1) end; begin write f(5) end."
)

func TestRunExamples(t *testing.T) {
	wantRun(t, squares, []int{3}, 20, api.OK, 11, 9, 4, 1)
	wantRun(t, factorial, nil, 20, api.OK, 16, 120)
	wantRun(t, squares, []int{3}, 3, api.ErrFuel, 3, 9)
}

func TestUnits(t *testing.T) {
	wantRun(t, "begin end.", nil, 0, api.OK, 0)
	wantRun(t, "begin begin begin end; ; begin end end end.", nil, 0, api.OK, 0)
	wantRun(t, "begin write 1 end.", nil, 0, api.ErrFuel, 0)
	wantRun(t, "begin write 1; begin write 2 end; write 3 end.", nil, 3, api.OK, 3, 1, 2, 3)
	wantRun(t, "var a, b[1]; begin a := 1; b[0] := 1; read a; if 0 then a := 1; if 1 then begin end end.", []int{1}, 9, api.OK, 5)
	wantRun(t, "begin while 0 do write 1 end.", nil, 9, api.OK, 1)
	wantRun(t, "begin while 1 do begin end end.", nil, 7, api.ErrFuel, 7)
	wantRun(t, "begin if 1 then while 0 do begin end else write 1 end.", nil, 9, api.OK, 2)
	wantRun(t, "proc p() begin end; begin p(); p() end.", nil, 9, api.OK, 2)
	wantRun(t, "func f() begin end; var a; begin a := f() + f() end.", nil, 9, api.OK, 3)
	wantRun(t, "func f(x) begin f := x end; begin write f(f(f(1))) end.", nil, 9, api.OK, 7, 1)
	wantRun(t, "func f(x) begin f := x end; begin while f(0) do begin end end.", nil, 9, api.OK, 3)
	for fuel := range 11 {
		wantRun(t, squares, []int{3}, fuel, api.ErrFuel, fuel, []int{9, 4, 1}[:fuel/3]...)
	}
}

func TestMostFuel(t *testing.T) {
	const count = "var n; begin while n < 1499 do n := n + 1; write n end."
	wantRun(t, count, nil, api.MaxFuel, api.OK, api.MaxFuel, 1499)
	wantRun(t, count, nil, api.MaxFuel-1, api.ErrFuel, api.MaxFuel-1)
	wantRun(t, "begin while 1 do begin end end.", nil, api.MaxFuel, api.ErrFuel, api.MaxFuel)
}

func TestArithmetic(t *testing.T) {
	wantOut(t, "begin write 2 + 3 * 4 - 5; write (2 + 3) * 4; write 9 - 4 - 3; write 100 / 7 / 2; write - 2 - 3 end.", 9, 20, 2, 7, -5)
	wantOut(t, "begin write 7 / 2; write -7 / 2; write 7 / -2; write -7 / -2 end.", 3, -3, -3, 3)
	wantOut(t, "begin write 7 % 2; write -7 % 2; write 7 % -2; write -7 % -2; write 0 % 5 end.", 1, -1, 1, -1, 0)
	wantOut(t, "begin write 2147483647; write 2147483647 + 1; write -2147483647 - 1; write -2147483647 - 2 end.", math.MaxInt32, math.MinInt32, math.MinInt32, math.MaxInt32)
	wantOut(t, "begin write 65536 * 32768; write 65536 * 65536; write 2147483647 * 2; write 2147483647 * 2147483647 end.", math.MinInt32, 0, -2, 1)
	wantRun(t, "var a; begin read a; write -a; write a / -1; write a % -1; write a * -1; write a - 1; write a < 0; write a / 2 end.", []int{math.MinInt32}, 8, api.OK, 8, math.MinInt32, math.MinInt32, 0, math.MinInt32, math.MaxInt32, 1, math.MinInt32/2)
	wantRun(t, "var a; begin read a; write a; write a + 1; write -a end.", []int{math.MaxInt32}, 4, api.OK, 4, math.MaxInt32, math.MinInt32, -math.MaxInt32)
}

func TestTests(t *testing.T) {
	wantOut(t, "begin write 3 = 3; write 3 = 4; write 3 # 3; write 3 # 4; write 3 < 3; write 3 < 4; write 3 > 3; write 4 > 3; write -1 < 0 end.", 1, 0, 0, 1, 0, 1, 0, 1, 1)
	wantOut(t, "begin write 5 and 6; write 5 and 0; write 0 and 6; write 0 or 6; write 5 or 0; write 0 or 0; write not 0; write not 5; write not not 5 end.", 1, 0, 0, 1, 1, 0, 1, 0, 1)
	wantOut(t, "begin write 0 and 1 / 0; write 5 or 1 / 0; write 1 and 0 and 1 / 0; write 0 or 7 or 1 / 0; write 0 and 1 / 0 or 1; write 1 < 2 and 2 < 3 end.", 0, 1, 0, 1, 1, 1)
	const shown = "func f(a) begin write a; f := a end; "
	wantOut(t, shown+"begin write f(1) - f(2) * f(3) end.", 1, 2, 3, -5)
	wantOut(t, shown+"begin write f(0) and f(1) or f(2) and f(3) end.", 0, 2, 3, 1)
	wantOut(t, shown+"begin write f(4) or f(5) end.", 4, 1)
}

// TestOrder: what is to the left is worked out first, and keeps the value that it had.
func TestOrder(t *testing.T) {
	const change = "var a, b[3]; func f(x) begin a := x; b[0] := x; f := 1 end; "
	wantOut(t, change+"begin write a + f(7) + a end.", 8)
	wantOut(t, change+"begin b[a] := f(2) + 4; write b[0]; write b[2] end.", 5, 0)
	wantOut(t, change+"begin b[f(2)] := b[0] + 4; write b[1] end.", 6)
	wantOut(t, change+"begin a := f(9) + 2; write a end.", 3)
	wantOut(t, change+"proc p(x, y, z) begin write x; write y; write z end; begin p(a, f(6), a) end.", 0, 1, 6)
}

func TestChoicesAndLoops(t *testing.T) {
	wantOut(t, "begin if -1 then write 1; if 0 then write 2; if 3 then write 3 else write 4; if 0 then write 5 else write 6 end.", 1, 3, 6)
	wantOut(t, "begin if 1 then if 0 then write 1 else write 2; if 0 then if 1 then write 3 else write 4 end.", 2)
	wantOut(t, "begin if 0 then begin if 1 then write 1 end else write 2 end.", 2)
	wantOut(t, "var a, b; begin while a < 3 do begin b := 0; while b < a do begin write a * 10 + b; b := b + 1 end; a := a + 1 end end.", 10, 20, 21)
	wantOut(t, "var a; begin a := 3; while a do a := a - 1; write a end.", 0)
}

func TestPlaces(t *testing.T) {
	wantOut(t, "var a, b[1], c[20], d; begin a := 1; b[0] := 2; c[0] := 3; c[19] := 4; d := 5; write a; write b[0]; write c[0]; write c[18]; write c[19]; write d end.", 1, 2, 3, 0, 4, 5)
	wantRun(t, "var a, b[1], c; begin a := 7; c := 8; write b[1] end.", nil, 9, api.ErrIndex, 3)
	wantRun(t, "var a, b[1], c; begin a := 7; c := 8; write b[-1] end.", nil, 9, api.ErrIndex, 3)
	wantRun(t, "var b[20]; begin write b[19]; b[20] := 1; write 1 end.", nil, 9, api.ErrIndex, 2, 0)
	wantRun(t, "var b[20]; begin write b[0]; b[-1] := 1 end.", nil, 9, api.ErrIndex, 2, 0)
	wantRun(t, "var b[3]; begin write b[2147483647 + 1] end.", nil, 9, api.ErrIndex, 1)
	wantRun(t, "var b[3]; begin write b[2147483647] end.", nil, 9, api.ErrIndex, 1)
}

func TestCalls(t *testing.T) {
	wantOut(t, "var a; proc p(a) var b; begin b := b + a; a := b + 1; write a end; begin a := 5; p(1); p(a); write a end.", 2, 6, 5)
	wantOut(t, "func f() var x; begin x := x + 1; f := x end; begin write f(); write f() end.", 1, 1)
	wantOut(t, "func f(a) begin if a then f := 9 end; begin write f(1); write f(0) end.", 9, 0)
	wantOut(t, "func f(f) begin f := f + 8; write f end; begin write f(3) end.", 11, 0)
	wantOut(t, "func f(a) begin f := a; f := a + 1; a := 9 end; begin write f(1) end.", 2)
	wantOut(t, "func f(a, b, c, d) begin f := a * 1000 + b * 100 + c * 10 + d end; begin write f(1, 2, 3, 4); write 5 - f(0, 0, f(0, 0, 0, 1), 2) end.", 1234, -7)
	wantOut(t, "func g(x) begin g := x * 2 end; func f(x) var y; begin y := g(x + 1); f := y + g(y) + x end; begin write f(3) end.", 27)
	wantOut(t, "var a; proc p(n) var m; begin m := n; if n > 0 then begin p(n - 1); p(n - 1) end; a := a + m end; begin p(3); write a end.", 11)
}

func TestMostCalls(t *testing.T) {
	const sum = "func f(n) begin if n > 1 then f := n + f(n - 1) else f := n end; begin write 8; write f("
	wantRun(t, sum+"30) end.", nil, api.MaxFuel, api.OK, 92, 8, 465)
	wantRun(t, sum+"31) end.", nil, api.MaxFuel, api.ErrCalls, 92, 8)
	const deeper = "proc p(n) begin if n > 1 then p(n - 1) else write n end; begin p("
	wantRun(t, deeper+"30) end.", nil, api.MaxFuel, api.OK, 61, 1)
	wantRun(t, deeper+"31) end.", nil, api.MaxFuel, api.ErrCalls, 61)
	wantRun(t, "proc p() begin end; begin "+strings.Repeat("p();", 100)+" write 1 end.", nil, api.MaxFuel, api.OK, 101, 1)
	wantRun(t, "func f(n) begin end; proc p(n) begin if n > 1 then p(n - 1) else write f(0) end; begin p(30) end.", nil, api.MaxFuel, api.ErrCalls, 61)
}

func TestInputAndOutput(t *testing.T) {
	wantRun(t, "var a, b; begin read a; read b; write a - b end.", []int{5, 7, 9}, 9, api.OK, 3, -2)
	wantRun(t, "proc p(a) begin read a; write a end; begin p(1) end.", []int{-4}, 9, api.OK, 3, -4)
	wantRun(t, "var a; begin read a; write a; read a; write a end.", []int{6}, 9, api.ErrInput, 3, 6)
	wantRun(t, "var a; begin read a end.", nil, 9, api.ErrInput, 1)
	most := slices.Repeat([]int{7}, api.MaxOut)
	wantRun(t, "var n; begin while n < 60 do begin write 7; n := n + 1 end end.", nil, 999, api.OK, 181, most...)
	wantRun(t, "var n; begin while n < 61 do begin write 7; n := n + 1 end end.", nil, 999, api.ErrOut, 182, most...)
	wantRun(t, "var n; begin while n < 60 do begin write 7; n := n + 1 end; write 1 / 0 end.", nil, 999, api.ErrDiv, 182, most...)
	wantRun(t, "func f() begin write 7 end; var n; begin while n < 59 do begin write 7; n := n + 1 end; write f() end.", nil, 999, api.ErrOut, 181, most...)
}

func TestDivided(t *testing.T) {
	wantRun(t, "begin write 1; write 1 / 0; write 2 end.", nil, 9, api.ErrDiv, 2, 1)
	wantRun(t, "begin write 1; write 1 % 0; write 2 end.", nil, 9, api.ErrDiv, 2, 1)
	wantRun(t, "var a; begin a := 0 / a end.", nil, 9, api.ErrDiv, 1)
	wantRun(t, "begin if 1 and 1 / 0 then write 1 end.", nil, 9, api.ErrDiv, 1)
	wantRun(t, "begin while 0 or 1 % 0 do write 1 end.", nil, 9, api.ErrDiv, 1)
	wantRun(t, "func f() begin f := 1 / 0 end; begin write 3; write f() end.", nil, 9, api.ErrDiv, 4, 3)
}

// TestFirstError: of several errors of a run the one is told that is come to first.
func TestFirstError(t *testing.T) {
	wantRun(t, "var a[3]; begin a[3] := 1 / 0 end.", nil, 9, api.ErrIndex, 1)
	wantRun(t, "var a[3]; begin a[1 / 0] := a[3] end.", nil, 9, api.ErrDiv, 1)
	wantRun(t, "var a[3]; begin a[2] := a[3] / 0 end.", nil, 9, api.ErrIndex, 1)
	wantRun(t, "var a[3]; begin write 1 / 0 + a[3] end.", nil, 9, api.ErrDiv, 1)
	wantRun(t, "var a[3]; begin write a[3] + 1 / 0 end.", nil, 9, api.ErrIndex, 1)
	wantRun(t, "var a; begin read a end.", nil, 0, api.ErrFuel, 0)
	wantRun(t, "begin write 1; write 1 / 0 end.", nil, 1, api.ErrFuel, 1, 1)
	wantRun(t, "func f(a) begin write 1 end; begin write f(1 / 0) end.", nil, 1, api.ErrDiv, 1)
	wantRun(t, "func f(a) begin write 1 end; begin write f(2) end.", nil, 1, api.ErrFuel, 1)
	wantRun(t, "func f(a) begin write 1 end; begin write f(2) end.", nil, 2, api.ErrFuel, 2)
	wantRun(t, "func f(a) begin end; begin write f(2) / 0 end.", nil, 1, api.ErrFuel, 1)
	const again = "func f(n) begin f := f(n) end; begin write f(1) end."
	wantRun(t, again, nil, 61, api.ErrCalls, 61)
	wantRun(t, again, nil, 60, api.ErrFuel, 60)
	wantRun(t, "proc p() begin p() end; begin p() end.", nil, 31, api.ErrCalls, 31)
	wantRun(t, "proc p() begin p() end; begin p() end.", nil, 30, api.ErrFuel, 30)
	wantRun(t, "func f(n) begin f := f(1 / (30 - n) + n) end; begin write f(1) end.", nil, 999, api.ErrCalls, 61)
	wantRun(t, "var a; proc p(n) begin a := a + 1; p(1 / (30 - a)) end; begin p(1) end.", nil, 999, api.ErrDiv, 61)
}

func wantNoRun(t *testing.T, text string, input []int, fuel int, code api.Errno, at int) {
	t.Helper()
	got, gotCode, gotAt := Run(text, input, fuel)
	if gotCode != code || gotAt != at || got.Code != api.OK || len(got.Out) != 0 || got.Used != 0 {
		t.Errorf("P4: Run(%.40q, %v, %d) = %v, %d, %d, want %d, %d", text, input, fuel, got, gotCode, gotAt, code, at)
	}
}

func TestNoRun(t *testing.T) {
	deep := "begin write 1; write " + strings.Repeat("(", api.MaxDeep-1)
	for _, c := range []struct {
		text string
		code api.Errno
		at   int
	}{
		{strings.Repeat("?", api.MaxText+1), api.ErrLong, 0},
		{"begin write 1; ? end.", api.ErrToken, 15},
		{"begin write 1; write 2147483648 end.", api.ErrNumber, 21},
		{"begin write 1; write end.", api.ErrSyntax, 21},
		{"begin write 1 end", api.ErrSyntax, 17},
		{deep + "1", api.ErrDeep, len(deep)},
		{"begin write 1; write x end.", api.ErrName, 21},
		{"proc p() begin end; begin write 1; p(1) end.", api.ErrArgs, 35},
		{"var a[21]; begin write 1 end.", api.ErrNumber, 6},
	} {
		wantNoRun(t, c.text, []int{1}, 9, c.code, c.at)
		wantNoRun(t, c.text, []int{math.MaxInt32 + 1}, -1, c.code, c.at)
	}
	const program = "begin write 1 end."
	for _, fuel := range []int{-1, api.MaxFuel + 1, math.MinInt, math.MaxInt} {
		wantNoRun(t, program, nil, fuel, api.ErrFuel, 0)
		wantNoRun(t, program, []int{math.MaxInt32 + 1}, fuel, api.ErrFuel, 0)
	}
	for _, number := range []int{math.MaxInt32 + 1, math.MinInt32 - 1, math.MinInt, math.MaxInt} {
		wantNoRun(t, program, []int{number}, 9, api.ErrInput, 0)
		wantNoRun(t, program, []int{1, 2, number}, 0, api.ErrInput, 0)
	}
	wantRun(t, program, []int{math.MinInt32, math.MaxInt32}, 9, api.OK, 1, 1)
	wantRun(t, program, []int{math.MinInt32, math.MaxInt32}, 0, api.ErrFuel, 0)
}

// TestRunAndCheck: whatever the text is, Run tells the same fault as Check.
func TestRunAndCheck(t *testing.T) {
	const program = "var a, b[3]; func f(x) var y; begin y := x; f := -y * (2 + b[0]) end; proc p() begin a := f(1) end; begin {n} if a # 1 then p() else read a; while not 0 or 1 do write 1 end."
	for i := range program {
		for b := range 256 {
			text := program[:i] + string([]byte{byte(b)}) + program[i+1:]
			if code, at := Check(text); code != api.OK {
				wantNoRun(t, text, nil, 99, code, at)
				continue
			}
			want := walk(text, nil, 99)
			wantRun(t, text, nil, 99, want.Code, want.Used, want.Out...)
		}
	}
}

// TestRunsAlone: no run leaves anything for another, and what it answers is its own.
func TestRunsAlone(t *testing.T) {
	const program = "var a, b[2]; begin a := a + 1; b[1] := b[1] + 2; write a; write b[1] end."
	first, _, _ := Run(program, nil, 9)
	first.Out[0] = 99
	second, _, _ := Run(program, nil, 9)
	if !slices.Equal(second.Out, []int{1, 2}) || !slices.Equal(first.Out, []int{99, 2}) {
		t.Errorf("P2: the runs wrote %v and %v", first.Out, second.Out)
	}
	wantRun(t, squares, []int{2}, 3, api.ErrFuel, 3, 4)
	wantRun(t, squares, []int{2}, 9, api.OK, 8, 4, 1)
}
