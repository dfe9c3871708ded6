package known

import (
	"testing"

	"reals/api"
	"reals/matrix"
	"reals/whole"
)

// of tells what is known by a sign and digits, written as in P14.
func of(symbols string) Known {
	k := Nothing()
	for i := 0; i < len(symbols); i++ {
		k = k.With(symbol(symbols[i], i == 0))
	}
	return k
}

func symbol(letter byte, first bool) matrix.Symbol {
	list := []matrix.Symbol{matrix.Low, matrix.Middle, matrix.High}
	if first {
		list = []matrix.Symbol{matrix.Plus, matrix.Minus, matrix.Small, matrix.Great}
	}
	for _, s := range list {
		if s.Letter() == letter {
			return s
		}
	}
	return matrix.None
}

// P14: sound is what has no infinity in it, neither as an end nor between.
func TestP14Sound(t *testing.T) {
	for _, c := range []struct {
		symbols string
		want    bool
	}{
		{"", false},
		{"+", false},
		{"-", false},
		{"o", true},
		{"w", false},
		{"+-", true},
		{"+0", true},
		{"+++++", false},
		{"++++-", true},
		{"--", true},
		{"-+++", false},
		{"-++0", true},
		{"o+++", true},
		{"o---", true},
		// From 1 to infinity, round infinity, and from infinity to -1.
		{"w-", false},
		{"w0", false},
		{"w+", false},
		{"w000", false},
		{"w--", true},
		{"w++", true},
		{"w-+", false},
		{"w+-", false},
	} {
		if got := of(c.symbols).Sound(); got != c.want {
			t.Errorf("P14: what %q tells is sound: %v", c.symbols, got)
		}
	}
}

func TestP15Decimal(t *testing.T) {
	for _, c := range []struct {
		symbols string
		n       int
		want    string // nothing, if too little is known
	}{
		{"", 0, ""},
		{"+", 0, ""},
		{"w", 0, ""},
		// From 0 to 1: the middle and 1/2 are 1, which is as far as may be.
		{"+-", 0, "1"},
		{"+-", 1, ""},
		// From -1 to 1, and from -1 to 0.
		{"o", 0, "0"},
		{"o", 1, ""},
		{"--", 0, "0"},
		// From 1/3 to 3: it would be 2, but 1/3 is too far from it.
		{"+0", 0, ""},
		// From 1 to 3 and from -3 to -1: both ends are as far as may be.
		{"++-", 0, "2"},
		{"-+-", 0, "-2"},
		// From 1 to 5/3: the middle and 1/2 are 11/6. From -5/3 to -1: -5/6.
		{"++--", 0, "1"},
		{"-+--", 0, "-1"},
		// From 3 to 7.
		{"+++-", 0, ""},
		// From 1 to 2, from -2 to -1: the same as by + and -.
		{"w--", 0, "2"},
		{"w++", 0, "-1"},
	} {
		got, ok := of(c.symbols).Decimal(c.n)
		if ok != (c.want != "") || ok && got.Text() != c.want {
			t.Errorf("P15: %q tells %s, %v of %d decimals, want %q", c.symbols, got.Text(), ok, c.n, c.want)
		}
	}
}

func TestP16Term(t *testing.T) {
	for _, c := range []struct {
		symbols string
		want    string
	}{
		{"", ""},
		{"+", ""},
		{"w", ""},
		{"o", ""},
		// From 0 to 1: the floors are 0 and 1.
		{"+-", ""},
		{"+--", "0"},
		{"+-0", "0"},
		{"+-+", ""},
		// From 1 to 3, then to 5/3.
		{"++-", ""},
		{"++--", "1"},
		{"--", ""},
		{"---", ""},
		{"--0", "-1"},
		{"--+", "-1"},
	} {
		got, ok := of(c.symbols).Term()
		if ok != (c.want != "") || ok && got.Text() != c.want {
			t.Errorf("P16: of %q the term is %s, %v, want %q", c.symbols, got.Text(), ok, c.want)
		}
	}
}

// P16: from 0 to 1/3 without 0, turned round, is from 3 to infinity.
func TestP16Beyond(t *testing.T) {
	k := of("+--").Beyond(whole.Of(0))
	if k.Sound() {
		t.Errorf("P16: infinity is an end")
	}
	if _, ok := k.Term(); ok {
		t.Errorf("P16: a term of what is not sound")
	}
	// From 1/15 to 3/13: from 13/3 to 15.
	k = of("+--0").Beyond(whole.Of(0))
	if _, ok := k.Term(); ok || !k.Sound() {
		t.Errorf("P16: from 13/3 to 15: sound %v, a term %v", k.Sound(), ok)
	}
	m, ok := of("+-0+-+").Beyond(whole.Of(0)).Term()
	if !ok || m.Text() != "2" {
		t.Errorf("P16: the term of 1/x, x from 9/23 to 5/11, is %s, %v", m.Text(), ok)
	}
	// From -3/5 to -1/7, floor -1: without it from 2/5 to 6/7, turned round from 7/6 to 5/2.
	k = of("--0").Beyond(whole.Of(-1))
	first, second := k.ends()
	if m, _ := k.Decimal(0); m.Text() != "2" || first.floor().Text() == second.floor().Text() {
		t.Errorf("P16: 1/(x + 1) is about %s", m.Text())
	}
}

func TestP17Compared(t *testing.T) {
	for _, c := range []struct {
		symbols string
		bits    int
		want    int
		ok      bool
	}{
		{"", 0, api.Near, false},
		{"+", 0, api.Near, false},
		{"-", 0, api.Near, false},
		{"w", 0, api.Near, false},
		{"w0", 0, api.Near, false},
		{"+++", 0, api.Near, false},
		// From -1 to 1: both ends are just near enough.
		{"o", 0, api.Near, true},
		{"o", 1, api.Near, false},
		{"o0", 1, api.Near, true},
		{"o0", 2, api.Near, false},
		// From 0 to 1 is not above 0, nor is from -1 to 0 below.
		{"+-", 0, api.Near, true},
		{"+-", 1, api.Near, false},
		{"--", 0, api.Near, true},
		{"--", 1, api.Near, false},
		{"+--", 1, api.Near, true},
		{"+--", 2, api.Near, false},
		// From 1/15 to 3/13: above 0 goes ahead of near.
		{"+--0", 2, api.Greater, true},
		{"---0", 2, api.Less, true},
		{"++-", 0, api.Greater, true},
		{"-+-", 60, api.Less, true},
		{"w--", 0, api.Greater, true},
		{"w++", 0, api.Less, true},
		// From -1 to 0 and from 0 to 1, by o.
		{"o-", 0, api.Near, true},
		{"o-", 1, api.Near, false},
		{"o+", 1, api.Near, false},
		{"o--", 1, api.Less, true},
		{"o++", 60, api.Greater, true},
	} {
		got, ok := of(c.symbols).Compared(c.bits)
		if got != c.want || ok != c.ok {
			t.Errorf("P17: %q with %d bits tells %d, %v, want %d, %v", c.symbols, c.bits, got, ok, c.want, c.ok)
		}
	}
}
