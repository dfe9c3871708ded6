package fraction

import (
	"math/big"
	"testing"

	"reals/whole"
)

func same(t *testing.T, what string, got Fraction, want *big.Rat) {
	t.Helper()
	if got.Text() != want.String() || got.Sign() != want.Sign() {
		t.Errorf("%s = %s, want %s", what, got.Text(), want)
	}
}

func TestOperations(t *testing.T) {
	for a := -9; a <= 9; a++ {
		for b := 1; b <= 8; b++ {
			x := Lowest(whole.Of(a), whole.Of(b))
			wantX := big.NewRat(int64(a), int64(b))
			same(t, "Lowest", x, wantX)
			same(t, "Lowest of a denominator below 0", Lowest(whole.Of(-a), whole.Of(-b)), wantX)
			same(t, "Negated", x.Negated(), new(big.Rat).Neg(wantX))
			for c := -12; c <= 12; c++ {
				y := Lowest(whole.Of(c), whole.Of(6))
				wantY := big.NewRat(int64(c), 6)
				same(t, "Plus", x.Plus(y), new(big.Rat).Add(wantX, wantY))
				same(t, "Minus", x.Minus(y), new(big.Rat).Sub(wantX, wantY))
				same(t, "Times", x.Times(y), new(big.Rat).Mul(wantX, wantY))
				if got := x.Compare(y); got != wantX.Cmp(wantY) {
					t.Errorf("%s compared to %s: %d", x.Text(), y.Text(), got)
				}
				if c != 0 {
					same(t, "Over", x.Over(y), new(big.Rat).Quo(wantX, wantY))
				}
			}
		}
	}
	same(t, "Of", Of(-123456789), big.NewRat(-123456789, 1))
}

// Something over 0 is infinity, whatever its sign (P14).
func TestInfinity(t *testing.T) {
	for _, top := range []int{1, -1, 12, -12} {
		if got := Lowest(whole.Of(top), whole.Of(0)).Text(); got != "1/0" {
			t.Errorf("%d/0 = %s", top, got)
		}
	}
	if got := Lowest(whole.Of(0), whole.Of(-5)).Text(); got != "0/1" {
		t.Errorf("0/-5 = %s", got)
	}
}

// P16: the terms of a fraction, as many as there are or are wanted.
func TestTerms(t *testing.T) {
	for _, c := range []struct {
		top, bottom, k int
		want           string
	}{
		{0, 1, 5, "0 "},
		{0, 1, 0, ""},
		{3, 1, 6, "3 "},
		{-3, 1, 6, "-3 "},
		{7, 2, 5, "3 2 "},
		{-7, 2, 5, "-4 2 "},
		{-7, 2, 1, "-4 "},
		{-1, 3, 9, "-1 1 2 "},
		{355, 113, 6, "3 7 16 "},
		{355, 113, 3, "3 7 16 "},
		{355, 113, 2, "3 7 "},
		{355, 113, 0, ""},
		{355, 113, -1, ""},
		{1, 1000, 3, "0 1000 "},
		{8, 5, 60, "1 1 1 2 "},
	} {
		got := ""
		list := Lowest(whole.Of(c.top), whole.Of(c.bottom)).Terms(c.k)
		for i := range list {
			got += list[i].Text() + " "
		}
		if got != c.want {
			t.Errorf("P16: %d terms of %d/%d are %q, want %q", c.k, c.top, c.bottom, got, c.want)
		}
	}
}
