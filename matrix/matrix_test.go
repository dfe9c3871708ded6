package matrix

import (
	"testing"

	"reals/api"
)

// P8: of each symbol its matrix, its letter, and what becomes of 0, 1, infinity.
func TestP8Symbols(t *testing.T) {
	for _, c := range []struct {
		symbol               Symbol
		letter               byte
		a, b, c, d           int
		nought, one, endless string
	}{
		{Plus, api.Plus, 1, 0, 0, 1, "0/1", "1/1", "1/0"},
		{Minus, api.Minus, -1, 0, 0, 1, "0/1", "-1/1", "1/0"},
		{Small, api.Small, 1, -1, 1, 1, "-1/1", "0/1", "1/1"},
		{Great, api.Great, 1, 1, -1, 1, "1/1", "1/0", "-1/1"},
		{Low, '-', 1, 0, 1, 2, "0/1", "1/3", "1/1"},
		{Middle, '0', 3, 1, 1, 3, "1/3", "1/1", "3/1"},
		{High, '+', 2, 1, 0, 1, "1/1", "3/1", "1/0"},
	} {
		m := c.symbol.Matrix()
		if text(m) != text(Of(c.a, c.b, c.c, c.d)) {
			t.Errorf("the matrix of %c is %s", c.letter, text(m))
		}
		if c.symbol.Letter() != c.letter {
			t.Errorf("the letter of %c is %c", c.letter, c.symbol.Letter())
		}
		// (1 1; 0 1) makes 1 of 0.
		one := m.After(Of(1, 1, 0, 1)).OfNought().Text()
		if m.OfNought().Text() != c.nought || one != c.one || m.OfInfinity().Text() != c.endless {
			t.Errorf("%c makes %s, %s, %s of 0, 1, infinity", c.letter, m.OfNought().Text(), one, m.OfInfinity().Text())
		}
	}
}

func text(m Matrix) string {
	return m.A.Text() + " " + m.B.Text() + "; " + m.C.Text() + " " + m.D.Text()
}

func TestNoSymbol(t *testing.T) {
	for _, s := range []Symbol{None, -1, 8} {
		if text(s.Matrix()) != "1 0; 0 1" || s.Letter() != ' ' {
			t.Errorf("symbol %d: %s, %c", s, text(s.Matrix()), s.Letter())
		}
	}
}

func TestAfter(t *testing.T) {
	product := Of(1, 2, 3, 4).After(Of(-5, 6, 7, -8))
	if text(product) != "9 -10; 13 -14" {
		t.Errorf("the product is %s", text(product))
	}
}
