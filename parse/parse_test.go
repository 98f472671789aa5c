package parse

import (
	"reflect"
	"strings"
	"testing"

	"lectern/api"
	"lectern/scan"
	"lectern/tree"
)

func read(t *testing.T, text string) (tree.Program, api.Errno, int) {
	t.Helper()
	tokens, code, at := scan.Tokens(text)
	if code != api.OK {
		t.Fatalf("the text %q has no tokens: %d, %d", text, code, at)
	}
	return Program(tokens)
}

func number(value int) tree.Expr { return tree.Number{Value: value} }

func binary(op string, left, right tree.Expr) tree.Expr {
	return tree.Binary{Op: op, Left: left, Right: right}
}

func TestExpressions(t *testing.T) {
	at := len("begin write ")
	for _, c := range []struct {
		text string
		want tree.Expr
	}{
		{"1 - 2 - 3", binary("-", binary("-", number(1), number(2)), number(3))},
		{"1 - (2 - 3)", binary("-", number(1), binary("-", number(2), number(3)))},
		{"1 + 2 * 3", binary("+", number(1), binary("*", number(2), number(3)))},
		{"1 / 2 % 3", binary("%", binary("/", number(1), number(2)), number(3))},
		{"1 + 2 < 3", binary("<", binary("+", number(1), number(2)), number(3))},
		{"1 or 2 and 3 # 4", binary("or", number(1), binary("and", number(2), binary("#", number(3), number(4))))},
		{"1 and 2 or 3", binary("or", binary("and", number(1), number(2)), number(3))},
		{"not 1 = 2", binary("=", tree.Unary{Op: "not", Operand: number(1)}, number(2))},
		{"--1", tree.Unary{Op: "-", Operand: tree.Unary{Op: "-", Operand: number(1)}}},
		{"x", tree.Variable{Name: tree.Name{Text: "x", At: at}}},
		{"x[1]", tree.Element{Array: tree.Name{Text: "x", At: at}, Index: number(1)}},
		{"x()", tree.CallFunc{Name: tree.Name{Text: "x", At: at}}},
		{"x(1, 2)", tree.CallFunc{Name: tree.Name{Text: "x", At: at}, Args: []tree.Expr{number(1), number(2)}}},
	} {
		want := tree.Program{Body: []tree.Statement{tree.Write{Value: c.want}}}
		got, code, _ := read(t, "begin write "+c.text+" end.")
		if code != api.OK || !reflect.DeepEqual(got, want) {
			t.Errorf("P3: %q became %#v, %d, want %#v", c.text, got, code, want)
		}
	}
}

func TestStatements(t *testing.T) {
	x := tree.Name{Text: "x", At: len("begin ")}
	one, two := tree.Write{Value: number(1)}, tree.Write{Value: number(2)}
	for _, c := range []struct {
		text string
		want []tree.Statement
	}{
		{"", nil},
		{";;", nil},
		{"write 1;; write 2;", []tree.Statement{one, two}},
		{"x := 1", []tree.Statement{tree.Assign{Name: x, Value: number(1)}}},
		{"x[1] := 2", []tree.Statement{tree.AssignAt{Array: x, Index: number(1), Value: number(2)}}},
		{"x()", []tree.Statement{tree.CallProc{Name: x}}},
		{"x(1)", []tree.Statement{tree.CallProc{Name: x, Args: []tree.Expr{number(1)}}}},
		{"begin end", []tree.Statement{tree.Block{}}},
		{"read y", []tree.Statement{tree.Read{Name: tree.Name{Text: "y", At: 11}}}},
		{"while 0 do write 1; write 2", []tree.Statement{tree.While{Test: number(0), Body: one}, two}},
		{"if 0 then if 3 then write 1 else write 2", []tree.Statement{tree.If{Test: number(0), Then: tree.If{Test: number(3), Then: one, Else: two}}}},
		{"if 0 then begin if 3 then write 1 end else write 2", []tree.Statement{tree.If{Test: number(0), Then: tree.Block{List: []tree.Statement{tree.If{Test: number(3), Then: one}}}, Else: two}}},
	} {
		got, code, _ := read(t, "begin "+c.text+" end.")
		if code != api.OK || !reflect.DeepEqual(got, tree.Program{Body: c.want}) {
			t.Errorf("P3: %q became %#v, %d, want %#v", c.text, got, code, c.want)
		}
	}
}

func TestGlobals(t *testing.T) {
	got, code, _ := read(t, "var a, b[3]; proc p(c, d) var e; var f, g; begin end; func h() begin end; begin end.")
	name := func(text string, at int) tree.Name { return tree.Name{Text: text, At: at} }
	want := tree.Program{Globals: []tree.Global{
		tree.Var{Name: name("a", 4)},
		tree.Array{Name: name("b", 7), Size: 3, SizeAt: 9},
		tree.Proc{Routine: tree.Routine{Name: name("p", 18), Params: []tree.Name{name("c", 20), name("d", 23)}, Locals: []tree.Name{name("e", 30), name("f", 37), name("g", 40)}}},
		tree.Func{Routine: tree.Routine{Name: name("h", 59)}},
	}}
	if code != api.OK || !reflect.DeepEqual(got, want) {
		t.Errorf("P3: the globals became %#v, %d, want %#v", got, code, want)
	}
}

// TestNoProgram: the place stands behind an @ that is no part of the text.
func TestNoProgram(t *testing.T) {
	for _, marked := range []string{
		"@",
		"   @",
		"begin end  {note} @",
		"begin write 1@",
		"begin end. @begin end.",
		"var a; @var1; begin end.",
		"var a @:= 1; begin end.",
		"var a; @proc1() begin end; begin end.",
		"proc @() begin end; begin end.",
		"proc p(@,) begin end; begin end.",
		"proc p(a @b) begin end; begin end.",
		"proc p() @proc q() begin end; begin end; begin end.",
		"proc p() begin end@. begin end.",
		"proc p() var @; begin end; begin end.",
		"begin if 1 then write 1 else write 2 @else write 3 end.",
		"begin if 1 then @else write 2 end.",
		"begin if 1 then write 1 else @; end.",
		"begin @else end.",
		"begin a[@] := 1 end.",
		"begin a[1@) := 1 end.",
		"begin write a[@] end.",
		"begin write (@) end.",
		"begin write a(1,@) end.",
		"begin write 1 < 2 @> 3 end.",
		"begin write 1 @not 2 end.",
		"begin write 1@, 2 end.",
		"begin read a@[1] end.",
		"begin read @read end.",
		"begin p@; end.",
		"begin p()@() end.",
		"begin p() @:= 1 end.",
	} {
		wantFault(t, marked, api.ErrSyntax)
	}
}

func wantFault(t *testing.T, marked string, want api.Errno) {
	t.Helper()
	text := strings.Replace(marked, "@", "", 1)
	got, code, at := read(t, text)
	if code != want || at != strings.Index(marked, "@") || !reflect.DeepEqual(got, tree.Program{}) {
		t.Errorf("P3: %q: %v, %d, %d, want %d at the @", marked, got, code, at, want)
	}
}

// nested is n statements, each within the one ahead of it, in the list of a program.
func nested(n int) string { return "begin " + strings.Repeat("begin ", n) }

func closed(n int) string { return strings.Repeat(" end", n+1) + "." }

func TestDeepEnough(t *testing.T) {
	last := api.MaxDeep - 1
	for _, text := range []string{
		nested(api.MaxDeep) + closed(api.MaxDeep),
		nested(api.MaxDeep) + ";;" + closed(api.MaxDeep),
		nested(last) + "p()" + closed(last),
		nested(last) + "read x" + closed(last),
		nested(last) + "; p(); begin end; read x;" + closed(last),
		nested(last-1) + "x := f()" + closed(last-1),
		nested(last-1) + "x[1] := y" + closed(last-1),
		nested(last-1) + "p(1, x, f())" + closed(last-1),
		nested(last-1) + "if 1 then read x else p()" + closed(last-1),
		nested(last-1) + "while 1 + x or 2 do begin end" + closed(last-1),
		"proc p() " + nested(last) + "p()" + strings.Repeat(" end", last+1) + "; begin end.",
		"begin write " + strings.Repeat("(", last-1) + "1" + strings.Repeat(")", last-1) + "+ 2 end.",
		"begin x := " + strings.Repeat("not ", last-1) + "1 end.",
		"begin x := " + strings.Repeat("f(", last-1) + "f()" + strings.Repeat(")", last-1) + " end.",
	} {
		if _, code, at := read(t, text); code != api.OK || at != 0 {
			t.Errorf("P3: %q: %d, %d", text, code, at)
		}
	}
}

func TestTooDeep(t *testing.T) {
	last := api.MaxDeep - 1
	for _, marked := range []string{
		nested(api.MaxDeep) + "@read x" + closed(api.MaxDeep),
		nested(api.MaxDeep) + "@begin end" + closed(api.MaxDeep),
		nested(api.MaxDeep) + ";; @p()" + closed(api.MaxDeep),
		nested(api.MaxDeep) + "@)",
		nested(api.MaxDeep) + "@.",
		nested(api.MaxDeep) + "@else",
		nested(api.MaxDeep) + "@",
		nested(api.MaxDeep) + ";@",
		nested(last) + "write @1" + closed(last),
		nested(last) + "write @;",
		nested(last) + "write @",
		nested(last) + "x := @end",
		nested(last) + "x[@] := 1",
		nested(last) + "p(@1)",
		nested(last) + "p(@,)",
		nested(last) + "p(@end",
		nested(last) + "if @1 then",
		nested(last) + "while @do",
		nested(last-1) + "if 1 then write @1",
		nested(last-1) + "if 1 then read x else write @1",
		nested(last-1) + "write f(@",
		nested(last-1) + "write f(@1)",
		nested(last-1) + "write 1 + (@)",
		nested(last-1) + "write a[@]",
		nested(last-1) + "write - @end",
		"proc p() " + nested(last) + "write @1",
		"begin write " + strings.Repeat("(", last) + "@)",
		"begin x[" + strings.Repeat("-", last) + "@1] := 2 end.",
		"begin p(1, 2, " + strings.Repeat("not ", last) + "@) end.",
	} {
		wantFault(t, marked, api.ErrDeep)
	}
}

// TestDeepAndSyntax: the one further ahead is told.
func TestDeepAndSyntax(t *testing.T) {
	last := api.MaxDeep - 1
	wantFault(t, "begin write @; "+nested(api.MaxDeep)+"read x", api.ErrSyntax)
	wantFault(t, nested(api.MaxDeep)+"@read x then . .", api.ErrDeep)
	wantFault(t, nested(last)+"p @1", api.ErrSyntax)
	wantFault(t, nested(last)+"@then", api.ErrSyntax)
	wantFault(t, nested(last)+"p()@)", api.ErrSyntax)
	wantFault(t, nested(last)+"read @(", api.ErrSyntax)
	wantFault(t, nested(api.MaxDeep)+"end @read x", api.ErrSyntax)
}
