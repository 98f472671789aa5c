package lectern

import (
	"math/rand"
	"strings"

	"lectern/api"
)

// maker makes texts, the same ones at each run of the tests.
type maker struct {
	*rand.Rand
	rules map[string][][]string
}

// grow lays down words that a symbol may become, about as many as left tells.
func (m *maker) grow(symbol string, left *int, words *[]string) {
	ways, known := m.rules[symbol]
	if !known {
		*left--
		*words = append(*words, symbol)
		return
	}
	way := ways[0]
	if *left > 0 {
		way = ways[m.Intn(len(ways))]
	}
	for _, part := range way {
		m.grow(part, left, words)
	}
}

const prelude = "var a , b [ 3 ] ; func f ( a ) begin f := a end ; proc p ( ) begin end ; "

// words: mostly a name of a kind that fits is taken.
func (m *maker) words() []string {
	left := 5 + m.Intn(60)
	words := []string{}
	m.grow("program", &left, &words)
	if m.Intn(4) > 0 {
		words = append(strings.Fields(prelude), words...)
	}
	for i, word := range words {
		switch word {
		case "NAME":
			words[i] = m.name(words, i)
		case "NUMBER":
			words[i] = []string{"0", "1", "3", "20", "21", "2147483647"}[m.Intn(6)]
		case "DEEP":
			words[i] = []string{"1", "a", "x", "read", "(", ";", "end", ")"}[m.Intn(8)]
		case "STOP":
			words[i] = ""
		}
	}
	return words
}

func (m *maker) name(words []string, i int) string {
	if m.Intn(12) == 0 {
		return string("abcfgpqx"[m.Intn(8)])
	}
	switch words[i+1] {
	case "[":
		return "b"
	case "(":
		if strings.Contains(" begin ; then else do ", " "+words[i-1]+" ") {
			return "p"
		}
		return "f"
	}
	return "a"
}

// spoil changes, adds, or takes away a word, or all behind it.
func (m *maker) spoil(words []string) []string {
	all := strings.Fields("var proc func begin end if then else while do write read and or not := + - * / % = # < > ( ) [ ] , ; . a b f p x 0 1 21")
	i := m.Intn(len(words))
	word := all[m.Intn(len(all))]
	out := append([]string{}, words[:i]...)
	switch m.Intn(4) {
	case 0:
		out = append(out, word)
	case 1:
		out = append(out, word, words[i])
	case 2:
		return words[:i+1]
	}
	return append(out, words[i+1:]...)
}

// nest puts brackets about a word, or begin and end, often enough to come near MaxDeep.
func (m *maker) nest(words []string) []string {
	n := api.MaxDeep - 3 + m.Intn(4)
	for i, word := range words {
		if word == "write" && m.Intn(3) == 0 && i+1 < len(words) {
			words[i+1] = strings.Repeat("( ", n) + words[i+1] + strings.Repeat(" )", n)
			return words
		}
		if word == "read" && m.Intn(2) == 0 && i+1 < len(words) {
			words[i] = strings.Repeat("begin ", n) + words[i]
			words[i+1] += strings.Repeat(" end", n)
			return words
		}
	}
	return words
}

func (m *maker) text() string {
	words := m.words()
	if m.Intn(4) == 0 {
		words = m.nest(words)
	}
	for len(words) > 0 && m.Intn(3) == 0 {
		words = m.spoil(words)
	}
	text := strings.TrimSpace(strings.Join(words, " "))
	if m.Intn(6) == 0 && text != "" {
		const odd = "{}: \n?A\xff9z="
		i, j := m.Intn(len(text)), m.Intn(len(odd))
		text = text[:i] + odd[j:j+1] + text[i+1:]
	}
	if m.Intn(20) == 0 {
		text = "{" + strings.Repeat("?", max(0, api.MaxText-len(text)-10+m.Intn(20))) + "}" + text
	}
	return text
}
