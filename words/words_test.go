package words

import (
	"strconv"
	"strings"
	"testing"
)

// shown writes the words and their places, so that a case fits one line.
func shown(list []Word) string {
	parts := []string{}
	for _, w := range list {
		letter := []string{"end", "number", "name", "mark"}[w.Kind]
		parts = append(parts, letter+" "+strconv.Quote(w.Text)+" "+strconv.Itoa(w.At))
	}
	return strings.Join(parts, ", ")
}

func TestP3Split(t *testing.T) {
	for _, c := range []struct{ s, want string }{
		{"", `end "" 0`},
		{"  ", `end "" 2`},
		{"12", `number "12" 0, end "" 2`},
		{" 007 ", `number "007" 1, end "" 5`},
		{"123456789", `number "123456789" 0, end "" 9`},
		{"1234567890", `number "123456789" 0, number "0" 9, end "" 10`},
		{"1234567890123456789", `number "123456789" 0, number "012345678" 9, number "9" 18, end "" 19`},
		{"12 34", `number "12" 0, number "34" 3, end "" 5`},
		{"1pi", `number "1" 0, name "pi" 1, end "" 3`},
		{"pi2 e", `name "pi2" 0, name "e" 4, end "" 5`},
		{"ln1p(x", `name "ln1p" 0, mark "(" 4, name "x" 5, end "" 6`},
		{"a0123456789b", `name "a0123456789b" 0, end "" 12`},
		{"az09", `name "az09" 0, end "" 4`},
		{"Pi", `mark "P" 0, name "i" 1, end "" 2`},
		{"pI", `name "p" 0, mark "I" 1, end "" 2`},
		{"--", `mark "-" 0, mark "-" 1, end "" 2`},
		{"1.5", `number "1" 0, mark "." 1, number "5" 2, end "" 3`},
		{"a_b", `name "a" 0, mark "_" 1, name "b" 2, end "" 3`},
		{"\t\n\x00", `mark "\t" 0, mark "\n" 1, mark "\x00" 2, end "" 3`},
		{"\xc3\xa9", `mark "\xc3" 0, mark "\xa9" 1, end "" 2`},
		{"`{/:@[", "mark \"`\" 0, mark \"{\" 1, mark \"/\" 2, mark \":\" 3, mark \"@\" 4, mark \"[\" 5, end \"\" 6"},
	} {
		if got := shown(Split(c.s)); got != c.want {
			t.Errorf("Split(%q) = %s, want %s", c.s, got, c.want)
		}
	}
}

func TestP3Value(t *testing.T) {
	for _, c := range []struct {
		s    string
		want int
	}{{"0", 0}, {"7", 7}, {"000", 0}, {"0070", 70}, {"123456789", 123456789}, {"999999999", 999999999}, {"pi", 0}} {
		list := Split(c.s)
		if got := list[0].Value(); got != c.want {
			t.Errorf("Value of %q = %d, want %d", c.s, got, c.want)
		}
	}
}
