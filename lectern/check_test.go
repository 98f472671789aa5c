package lectern

import (
	"strings"
	"testing"

	"lectern/api"
)

func wantCheck(t *testing.T, text string, code api.Errno, at int) {
	t.Helper()
	if gotCode, gotAt := Check(text); gotCode != code || gotAt != at {
		t.Errorf("P3: Check(%q) = %d, %d, want %d, %d", text, gotCode, gotAt, code, at)
	}
}

func TestExamples(t *testing.T) {
	wantCheck(t, "begin x := 1 end.", api.ErrName, 6)
	wantCheck(t, "begin write 1 +  end.", api.ErrSyntax, 17)
	wantCheck(t, "begin end", api.ErrSyntax, 9)
	wantCheck(t, "var a[0]; begin end.", api.ErrNumber, 6)
	wantCheck(t, "begin ? end.", api.ErrToken, 6)
	wantCheck(t, "proc p(a) begin end; begin p() end.", api.ErrArgs, 27)
	wantCheck(t, "var n; begin read n; while n > 0 do begin write n * n; n := n - 1 end end.", api.OK, 0)
	wantCheck(t, "func f(n) begin if n < 2 then f := 1 else f := n * f(n - 1) end; begin write f(5) end.", api.OK, 0)
	wantCheck(t, "begin write 1; write 2; write 3 end.", api.OK, 0)
}

func TestLimits(t *testing.T) {
	const program = "begin end."
	gap := strings.Repeat(" ", api.MaxText-len(program))
	note := "{" + strings.Repeat("x", api.MaxText-len(program)-2) + "}"
	wantCheck(t, gap+program, api.OK, 0)
	wantCheck(t, program+note, api.OK, 0)
	wantCheck(t, gap+program+" ", api.ErrLong, 0)
	wantCheck(t, program+note+"\n", api.ErrLong, 0)
	wantCheck(t, strings.Repeat(" ", api.MaxText), api.ErrSyntax, api.MaxText)
	wantCheck(t, strings.Repeat("\xff", api.MaxText+1), api.ErrLong, 0)
	wantCheck(t, strings.Repeat("ab", api.MaxText/2)[1:]+"?", api.ErrToken, api.MaxText-1)
	wantCheck(t, "begin write 2147483647 end.", api.OK, 0)
	wantCheck(t, "begin write 2147483648 end.", api.ErrNumber, 12)
	wantCheck(t, "begin write -2147483648 end.", api.ErrNumber, 13)
	wantCheck(t, "var a[20]; begin end.", api.OK, 0)
	wantCheck(t, "var a[21]; begin end.", api.ErrNumber, 6)
	wantCheck(t, "proc p(a, b, c, d) begin end; begin end.", api.OK, 0)
	wantCheck(t, "proc p(a, b, c, d, e) begin end; begin end.", api.ErrArgs, 5)
	wantCheck(t, "begin write "+strings.Repeat("-", api.MaxDeep-2)+"1 end.", api.OK, 0)
	wantCheck(t, "begin write "+strings.Repeat("-", api.MaxDeep-1)+"1 end.", api.ErrDeep, 11+api.MaxDeep)
}

// TestWhichIsTold: a fault of a token goes ahead of one of the grammar, and that ahead of one of names, wherever they stand.
func TestWhichIsTold(t *testing.T) {
	deep := "begin write " + strings.Repeat("(", api.MaxDeep-1) + "1"
	wantCheck(t, "x ? 2147483648", api.ErrToken, 2)
	wantCheck(t, "x 2147483648 ?", api.ErrNumber, 2)
	wantCheck(t, "var a[2147483648]; begin x := 1 end", api.ErrNumber, 6)
	wantCheck(t, deep+" {", api.ErrToken, len(deep)+1)
	wantCheck(t, "begin x := 1 end", api.ErrSyntax, 16)
	wantCheck(t, "var a[0], a; begin x() end. end", api.ErrSyntax, 28)
	wantCheck(t, "proc p(a, b, c, d, e) "+deep, api.ErrDeep, 22+len(deep)-1)
	wantCheck(t, "begin x := 1; then "+deep, api.ErrSyntax, 14)
	wantCheck(t, deep+" then", api.ErrDeep, len(deep)-1)
	wantCheck(t, "var a[0], b, b; begin end.", api.ErrNumber, 6)
	wantCheck(t, "var b, b, a[0]; begin end.", api.ErrName, 7)
	wantCheck(t, "proc p(a) begin end; begin p(x) end.", api.ErrName, 29)
	wantCheck(t, "proc p(a) begin end; begin p(x, y) end.", api.ErrArgs, 27)
}

// TestAnyText: no text makes it panic, and every answer is one that a Check may give.
func TestAnyText(t *testing.T) {
	const program = "var a, b[3]; func f(x) var y; begin y := x; f := -y * (2 + b[0]) end; proc p() begin a := f(1) end; begin {n} if a # 1 then p() else read a; while not 0 or 1 do write 1 end."
	wantCheck(t, program, api.OK, 0)
	for i := range program {
		wantSane(t, program[:i])
		wantSane(t, program[i:])
		for b := range 256 {
			wantSane(t, program[:i]+string([]byte{byte(b)})+program[i+1:])
		}
	}
	wantSane(t, strings.Repeat("(", 1<<20))
	for _, word := range strings.Fields("begin ( [ x x( x[ if while - not 1 1+ ; , . var proc { } := read write func") {
		wantSane(t, strings.Repeat(word, api.MaxText/len(word)))
		wantSane(t, strings.Repeat(word+" ", api.MaxText/(len(word)+1)))
		wantSane(t, "begin "+strings.Repeat(word+" ", (api.MaxText-6)/(len(word)+1)))
	}
}

func wantSane(t *testing.T, text string) {
	t.Helper()
	code, at := Check(text)
	if code < api.OK || code > api.ErrArgs || at < 0 || at > len(text) || (code == api.OK && at != 0) {
		t.Errorf("P1: Check(%q) = %d, %d", text, code, at)
	}
}

// TestSameAgain: what was asked ahead of it makes no difference.
func TestSameAgain(t *testing.T) {
	for range 3 {
		wantCheck(t, "var a; func f(b) begin f := b end; begin a := f(a) end.", api.OK, 0)
		wantCheck(t, "begin a := 1 end.", api.ErrName, 6)
		wantCheck(t, "begin write f(1) end.", api.ErrName, 12)
		wantCheck(t, "func f(b) begin end; begin write b end.", api.ErrName, 33)
	}
}
