package names

import (
	"strings"
	"testing"

	"lectern/api"
	"lectern/parse"
	"lectern/scan"
)

// look reads a text without its @, which stands where a fault is to be told.
func look(t *testing.T, marked string) (api.Errno, int) {
	t.Helper()
	text := strings.Replace(marked, "@", "", 1)
	tokens, code, at := scan.Tokens(text)
	if code != api.OK {
		t.Fatalf("the text %q has no tokens: %d, %d", text, code, at)
	}
	program, code, at := parse.Program(tokens)
	if code != api.OK {
		t.Fatalf("the text %q is no program: %d, %d", text, code, at)
	}
	return Look(program)
}

func wantFaults(t *testing.T, want api.Errno, texts ...string) {
	t.Helper()
	for _, marked := range texts {
		if code, at := look(t, marked); code != want || at != strings.Index(marked, "@") {
			t.Errorf("P3: %q: %d, %d, want %d at the @", marked, code, at, want)
		}
	}
}

func TestNoFault(t *testing.T) {
	for _, text := range []string{
		"var a, b[1], c[20]; begin a := b[a] + c[19]; b[0] := a; read a; write -a end.",
		"proc p(a, b, c, d) begin p(1, 2, 3, d) end; begin p(1, 2, 3, 4) end.",
		"func f(a) begin if a then f := f(a - 1) else f := 0 end; begin write f(f(2)) end.",
		"var a[3]; proc p(a) begin a := 1 end; proc q() var a; begin read a end; begin a[0] := a[1] end.",
		"proc p(p) begin p := p end; begin p(1) end.",
		"func f() begin end; proc p() var f; begin f := 1; write f end; begin write f() end.",
		"proc p() begin end; func f(p) begin f := p end; begin p(); write f(1) end.",
		"proc p(a) begin end; proc q(a) var b; begin end; proc r() var a, b; begin end; var a, b; begin a := b end.",
		"func f() begin while 1 do if 2 then begin f := 1 end end; begin end.",
		"func f() begin f := 1 end; func g() begin g := f() end; begin end.",
	} {
		if code, at := look(t, text); code != api.OK || at != 0 {
			t.Errorf("P3: %q: %d, %d", text, code, at)
		}
	}
}

func TestDeclaredTwice(t *testing.T) {
	wantFaults(t, api.ErrName,
		"var a; var @a; begin end.",
		"var a[2], @a; begin end.",
		"var a, @a[2]; begin end.",
		"proc p() begin end; proc @p() begin end; begin end.",
		"func f() begin end; proc @f() begin end; begin end.",
		"proc p() begin end; func @p() begin end; begin end.",
		"func f() begin end; var @f; begin end.",
		"proc p(a, b, @a) begin end; begin end.",
		"func f(a) var b, @a; begin end; begin end.",
		"func f() var b, @b; begin end; begin end.",
	)
}

// TestUnknown: also ahead of its place, and behind the end of its proc or func.
func TestUnknown(t *testing.T) {
	wantFaults(t, api.ErrName,
		"begin @x := y end.",
		"begin @x[y] := z end.",
		"begin @x(y) end.",
		"begin read @x end.",
		"begin write @x + y end.",
		"begin write 1 + @y end.",
		"begin write @x[y] end.",
		"begin write @x(y) end.",
		"begin write - @x end.",
		"begin write not (1 or @x) end.",
		"proc p() begin @x := 1 end; var x; begin x := 1 end.",
		"proc p() begin write @f() end; func f() begin end; begin end.",
		"proc p(x) begin end; proc q() begin @x := 1 end; begin end.",
		"proc p() var x; begin end; begin @x := 1 end.",
	)
}

func TestOtherKind(t *testing.T) {
	const all = "var v, w[3]; proc p() begin end; func f() begin end; begin "
	for _, text := range []string{
		"@w := 1", "@p := 1", "@f := 1",
		"@v[0] := 1", "@p[0] := 1", "@f[0] := 1",
		"@v()", "@w()", "@f()",
		"read @w", "read @p", "read @f",
		"write @w", "write @p", "write @f",
		"write @v[0]", "write @p[0]", "write @f[0]",
		"write @v()", "write @w()", "write @p()",
	} {
		wantFaults(t, api.ErrName, all+text+" end.")
	}
}

// TestResult: only in its own body, only to be assigned to, and not where a local name hides it.
func TestResult(t *testing.T) {
	wantFaults(t, api.ErrName,
		"func f() begin f := 1; write @f end; begin end.",
		"func f() begin read @f end; begin end.",
		"func f() begin f := 1 end; func g() begin @f := 1 end; begin end.",
		"func f() begin f := 1 end; proc p() begin @f := 1 end; begin end.",
		"func f() begin f := 1 end; begin @f := 1 end.",
		"proc p() begin @p := 1 end; begin end.",
		"func f(f) begin f := 1; write @f(1) end; begin end.",
		"proc p() var p; begin p := 1; @p() end; begin end.",
		"var a[2]; proc p(a) begin @a[0] := 1 end; begin end.",
	)
}

func TestArguments(t *testing.T) {
	wantFaults(t, api.ErrArgs,
		"proc @p(a, b, c, d, e) begin end; begin end.",
		"func @f(a, b, c, d, e) begin end; begin end.",
		"proc @p(a, a, b, c, d) begin end; begin end.",
		"proc p(a, b) begin end; begin @p(x) end.",
		"proc p(a, b) begin end; begin @p(1, 2, 3) end.",
		"proc p(a) begin @p() end; begin end.",
		"func f() begin end; begin write @f(1) end.",
		"func f(a) begin f := @f() end; begin end.",
		"func f(a) begin end; begin write f(@f()) end.",
		"func f(a, b) begin end; begin write f(f(1, 2), @f((3))) end.",
	)
}

func TestArraySizes(t *testing.T) {
	wantFaults(t, api.ErrNumber,
		"var a[@0]; begin end.",
		"var a[@21]; begin end.",
		"var a[@2147483647]; begin end.",
		"var b, a[1], c[20], d[@000]; begin end.",
	)
}

// TestFurthestAhead: of several faults.
func TestFurthestAhead(t *testing.T) {
	wantFaults(t, api.ErrName,
		"var a, @a[0]; begin end.",
		"var a; proc @a(b, c, d, e, f) begin end; begin end.",
		"proc p(a, @a) begin end; var b[0]; begin end.",
		"proc p() begin @x := 1 end; proc q(a, b, c, d, e) begin end; begin end.",
		"func f(a) begin end; begin write @x(f()) end.",
		"var v; begin @x := y; v() end.",
		"var v[2]; begin v[@x] := y end.",
		"var v[2]; begin v[1] := @y; z() end.",
		"begin if @x then y() else z() end.",
		"begin if 1 then @y() else z() end.",
		"begin if 1 then begin end else @z() end.",
		"begin while @x do y() end.",
		"begin while 1 do @y() end.",
	)
	wantFaults(t, api.ErrArgs,
		"proc @p(a, b, c, d, e) begin x := 1 end; var p; begin end.",
		"func f(a) begin end; begin write @f() + x end.",
		"func f(a) begin end; begin write @f(x, y) end.",
	)
	wantFaults(t, api.ErrNumber,
		"var a[@0], a; begin end.",
		"var a[@99]; proc p(b, b, b, b, b) begin end; begin end.",
	)
}
