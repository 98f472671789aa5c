// Package scan cuts a text into tokens.
package scan

import (
	"strings"

	"lectern/api"
)

// Kind tells what a token is.
type Kind int

const (
	End    Kind = iota // behind the last token
	Name               // a word that is no keyword
	Number             // digits
	Fixed              // a keyword or a sign, which is told by its text
)

// Token is a piece of a text. Value is that of a number. At is its first byte's place; that of the End is the text's length.
type Token struct {
	Kind  Kind
	Text  string
	Value int
	At    int
}

// Tokens answers all tokens of a text, with an End behind them; or else the first fault of a token, and its place.
func Tokens(text string) ([]Token, api.Errno, int) {
	var all []Token
	at := skipGap(text, 0)
	for at < len(text) {
		t, code := readToken(text, at)
		if code != api.OK {
			return nil, code, at
		}
		all = append(all, t)
		at = skipGap(text, at+len(t.Text))
	}
	return append(all, Token{Kind: End, At: len(text)}), api.OK, 0
}

// skipGap goes past blanks, newlines and notes. It stays at a note without an end, which begins no token.
func skipGap(text string, at int) int {
	for at < len(text) {
		size := gapSize(text[at:])
		if size == 0 {
			return at
		}
		at += size
	}
	return at
}

func gapSize(rest string) int {
	switch rest[0] {
	case ' ', '\n':
		return 1
	case '{':
		return strings.IndexByte(rest, '}') + 1
	}
	return 0
}

func readToken(text string, at int) (Token, api.Errno) {
	rest := text[at:]
	switch {
	case isLetter(rest[0]):
		return readWord(rest, at), api.OK
	case isDigit(rest[0]):
		return readNumber(rest, at)
	}
	size := signSize(rest)
	if size == 0 {
		return Token{}, api.ErrToken
	}
	return Token{Kind: Fixed, Text: rest[:size], At: at}, api.OK
}

func readWord(rest string, at int) Token {
	size := 1
	for size < len(rest) && (isLetter(rest[size]) || isDigit(rest[size])) {
		size++
	}
	t := Token{Kind: Name, Text: rest[:size], At: at}
	if isKeyword(t.Text) {
		t.Kind = Fixed
	}
	return t
}

func readNumber(rest string, at int) (Token, api.Errno) {
	size, value := 0, int64(0)
	for size < len(rest) && isDigit(rest[size]) {
		value = value*10 + int64(rest[size]-'0')
		// Asked at each digit, as a long number would leave int64, too.
		if value > api.MaxNumber {
			return Token{}, api.ErrNumber
		}
		size++
	}
	return Token{Kind: Number, Text: rest[:size], Value: int(value), At: at}, api.OK
}

func signSize(rest string) int {
	switch rest[0] {
	case '+', '-', '*', '/', '%', '=', '#', '<', '>', '(', ')', '[', ']', ',', ';', '.':
		return 1
	}
	if strings.HasPrefix(rest, ":=") {
		return 2
	}
	return 0
}

func isKeyword(word string) bool {
	switch word {
	case "var", "proc", "func", "begin", "end", "if", "then", "else", "while", "do", "write", "read", "and", "or", "not":
		return true
	}
	return false
}

func isLetter(b byte) bool { return 'a' <= b && b <= 'z' }

func isDigit(b byte) bool { return '0' <= b && b <= '9' }
