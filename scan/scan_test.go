package scan

import (
	"reflect"
	"strings"
	"testing"

	"lectern/api"
)

func TestTokens(t *testing.T) {
	for _, c := range []struct {
		text string
		want []Token
	}{
		{"", []Token{{End, "", 0, 0}}},
		{" \n{a {b}\n", []Token{{End, "", 0, 9}}},
		{"{}", []Token{{End, "", 0, 2}}},
		{"a:=b1c", []Token{{Name, "a", 0, 0}, {Fixed, ":=", 0, 1}, {Name, "b1c", 0, 3}, {End, "", 0, 6}}},
		{"if iff i{f}f", []Token{{Fixed, "if", 0, 0}, {Name, "iff", 0, 3}, {Name, "i", 0, 7}, {Name, "f", 0, 11}, {End, "", 0, 12}}},
		{"12end 007", []Token{{Number, "12", 12, 0}, {Fixed, "end", 0, 2}, {Number, "007", 7, 6}, {End, "", 0, 9}}},
		{"2147483647", []Token{{Number, "2147483647", api.MaxNumber, 0}, {End, "", 0, 10}}},
		{"1 2\n3", []Token{{Number, "1", 1, 0}, {Number, "2", 2, 2}, {Number, "3", 3, 4}, {End, "", 0, 5}}},
		{"<>=", []Token{{Fixed, "<", 0, 0}, {Fixed, ">", 0, 1}, {Fixed, "=", 0, 2}, {End, "", 0, 3}}},
	} {
		got, code, at := Tokens(c.text)
		if code != api.OK || at != 0 || !reflect.DeepEqual(got, c.want) {
			t.Errorf("P3: Tokens(%q) = %v, %d, %d, want %v", c.text, got, code, at, c.want)
		}
	}
}

func TestKeywordsAndSigns(t *testing.T) {
	for _, text := range strings.Fields("var proc func begin end if then else while do write read and or not := + - * / % = # < > ( ) [ ] , ; .") {
		got, code, _ := Tokens(text)
		if code != api.OK || len(got) != 2 || got[0] != (Token{Fixed, text, 0, 0}) {
			t.Errorf("P3: Tokens(%q) = %v, %d", text, got, code)
		}
	}
}

// TestFirstBytes: each byte alone begins a token, stands between tokens, or does neither.
func TestFirstBytes(t *testing.T) {
	const good = "abcdefghijklmnopqrstuvwxyz0123456789+-*/%=#<>()[],;. \n"
	for b := range 256 {
		text := string([]byte{byte(b)})
		want := api.ErrToken
		if strings.Contains(good, text) {
			want = api.OK
		}
		if _, code, at := Tokens(text); code != want || at != 0 {
			t.Errorf("P3: Tokens(%q) = %d, %d, want %d, 0", text, code, at, want)
		}
	}
}

func TestFaults(t *testing.T) {
	for _, c := range []struct {
		text string
		code api.Errno
		at   int
	}{
		{"ab ?", api.ErrToken, 3},
		{"abC", api.ErrToken, 2},
		{"a: =", api.ErrToken, 1},
		{"a:{}=", api.ErrToken, 1},
		{"a :", api.ErrToken, 2},
		{"{a}} b", api.ErrToken, 3},
		{"a {b", api.ErrToken, 2},
		{"{a}{", api.ErrToken, 3},
		{"a {b{c ? 2147483648", api.ErrToken, 2},
		{"a\tb", api.ErrToken, 1},
		{"1 2147483648", api.ErrNumber, 2},
		{"0002147483648", api.ErrNumber, 0},
		{"2147483648x ?", api.ErrNumber, 0},
		{"? 2147483648", api.ErrToken, 0},
		{"a" + strings.Repeat("+9", 9) + "9999999999999999999999999999999999999999", api.ErrNumber, 18},
		{"18446744073709551617", api.ErrNumber, 0},
	} {
		got, code, at := Tokens(c.text)
		if got != nil || code != c.code || at != c.at {
			t.Errorf("P3: Tokens(%q) = %v, %d, %d, want none, %d, %d", c.text, got, code, at, c.code, c.at)
		}
	}
}
