package compile

import (
	"slices"
	"testing"

	"lectern/api"
	"lectern/code"
	"lectern/names"
	"lectern/parse"
	"lectern/scan"
)

func compiled(t *testing.T, text string) code.Program {
	t.Helper()
	tokens, code, at := scan.Tokens(text)
	if code != api.OK {
		t.Fatalf("the text %q has no tokens: %d, %d", text, code, at)
	}
	program, code, at := parse.Program(tokens)
	if code != api.OK {
		t.Fatalf("the text %q is no program: %d, %d", text, code, at)
	}
	if code, at := names.Look(program); code != api.OK {
		t.Fatalf("the text %q has a wrong name: %d, %d", text, code, at)
	}
	return Program(program)
}

func wantCode(t *testing.T, text string, start, places int, words ...int) {
	t.Helper()
	got := compiled(t, text)
	if !slices.Equal(got.Words, words) || got.Start != start || got.Places != places {
		t.Errorf("P4: %q became %v, want %v, %d, %d", text, got, words, start, places)
	}
}

func TestStatements(t *testing.T) {
	wantCode(t, "begin end.", 0, 0, code.End)
	wantCode(t, "begin begin; begin end end end.", 0, 0, code.End)
	wantCode(t, "var a, b; begin b := 7 end.", 0, 2, code.Unit, code.Push, 7, code.Set, 1, code.End)
	wantCode(t, "var a; begin read a; write a end.", 0, 1, code.Unit, code.Read, code.Set, 0, code.Unit, code.Get, 0, code.Write, code.End)
	wantCode(t, "var a, b[3], c; begin b[1] := 2; write c end.", 0, 5, code.Unit, code.Push, 1, code.Find, 1, 3, code.Push, 2, code.SetAt, code.Unit, code.Get, 4, code.Write, code.End)
	wantCode(t, "begin if 5 then write 6 end.", 0, 0, code.Unit, code.Push, 5, code.Unless, 9, code.Unit, code.Push, 6, code.Write, code.End)
	wantCode(t, "begin if 5 then write 6 else write 7 end.", 0, 0, code.Unit, code.Push, 5, code.Unless, 11, code.Unit, code.Push, 6, code.Write, code.Jump, 15, code.Unit, code.Push, 7, code.Write, code.End)
	wantCode(t, "begin while 5 do write 6 end.", 0, 0, code.Unit, code.Push, 5, code.Unless, 11, code.Unit, code.Push, 6, code.Write, code.Jump, 0, code.End)
}

func TestExpressions(t *testing.T) {
	for _, c := range []struct {
		text  string
		words []int
	}{
		{"1 + 2", []int{code.Push, 1, code.Push, 2, code.Add}},
		{"1 - 2", []int{code.Push, 1, code.Push, 2, code.Subtract}},
		{"1 * 2", []int{code.Push, 1, code.Push, 2, code.Multiply}},
		{"1 / 2", []int{code.Push, 1, code.Push, 2, code.Divide}},
		{"1 % 2", []int{code.Push, 1, code.Push, 2, code.Remain}},
		{"1 = 2", []int{code.Push, 1, code.Push, 2, code.Equal}},
		{"1 # 2", []int{code.Push, 1, code.Push, 2, code.Differ}},
		{"1 < 2", []int{code.Push, 1, code.Push, 2, code.Less}},
		{"1 > 2", []int{code.Push, 1, code.Push, 2, code.Greater}},
		{"- 1", []int{code.Push, 1, code.Negate}},
		{"not 1", []int{code.Push, 1, code.Not}},
		{"1 and 2", []int{code.Push, 1, code.Unless, 10, code.Push, 2, code.Truth, code.Jump, 12, code.Push, 0}},
		{"1 or 2", []int{code.Push, 1, code.Unless, 9, code.Push, 1, code.Jump, 12, code.Push, 2, code.Truth}},
		{"1 - (2 - 3)", []int{code.Push, 1, code.Push, 2, code.Push, 3, code.Subtract, code.Subtract}},
	} {
		wantCode(t, "begin write "+c.text+" end.", 0, 0, slices.Concat([]int{code.Unit}, c.words, []int{code.Write, code.End})...)
	}
	wantCode(t, "var a, b[3]; begin write b[2] end.", 0, 4, code.Unit, code.Push, 2, code.Find, 1, 3, code.GetAt, code.Write, code.End)
}

func TestRoutines(t *testing.T) {
	wantCode(t, "proc p() begin p() end; begin p() end.", 7, 0, code.Enter, 0, code.Unit, code.Call, 0, 0, code.Leave, code.Unit, code.Call, 0, 0, code.End)
	wantCode(t, "var a; proc p(b, c) var d; begin d := c; a := b end; begin end.", 13, 1, code.Enter, 1, code.Unit, code.GetLocal, 1, code.SetLocal, 2, code.Unit, code.GetLocal, 0, code.Set, 0, code.Leave, code.End)
	wantCode(t, "func f(a) var b; begin f := b end; begin write f(3) end.", 10, 0, code.Unit, code.Enter, 2, code.Unit, code.GetLocal, 1, code.SetLocal, 2, code.LeaveWith, 2, code.Unit, code.Push, 3, code.Call, 0, 1, code.Write, code.End)
}

// TestSameName: a parameter or local goes ahead of a global, and ahead of the result of the func.
func TestSameName(t *testing.T) {
	wantCode(t, "var a; proc p(a) begin a := a end; begin a := a end.", 8, 1, code.Enter, 0, code.Unit, code.GetLocal, 0, code.SetLocal, 0, code.Leave, code.Unit, code.Get, 0, code.Set, 0, code.End)
	wantCode(t, "func f(f) begin f := f end; begin end.", 10, 0, code.Unit, code.Enter, 1, code.Unit, code.GetLocal, 0, code.SetLocal, 0, code.LeaveWith, 1, code.End)
}
