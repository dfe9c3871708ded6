package fraction

import (
	"math/big"
	"testing"

	"reals/whole"
)

func same(t *testing.T, what string, got Fraction, want *big.Rat) {
	t.Helper()
	if got.Text() != want.String() || got.Sign() != want.Sign() {
		t.Errorf("%s = %s, want %s", what, got.Text(), want)
	}
}

func TestOperations(t *testing.T) {
	for a := -9; a <= 9; a++ {
		for b := 1; b <= 8; b++ {
			x := Lowest(whole.Of(a), whole.Of(b))
			wantX := big.NewRat(int64(a), int64(b))
			same(t, "Lowest", x, wantX)
			same(t, "Lowest of a denominator below 0", Lowest(whole.Of(-a), whole.Of(-b)), wantX)
			same(t, "Negated", x.Negated(), new(big.Rat).Neg(wantX))
			for c := -12; c <= 12; c++ {
				y := Lowest(whole.Of(c), whole.Of(6))
				wantY := big.NewRat(int64(c), 6)
				same(t, "Plus", x.Plus(y), new(big.Rat).Add(wantX, wantY))
				same(t, "Minus", x.Minus(y), new(big.Rat).Sub(wantX, wantY))
				same(t, "Times", x.Times(y), new(big.Rat).Mul(wantX, wantY))
				if c != 0 {
					same(t, "Over", x.Over(y), new(big.Rat).Quo(wantX, wantY))
				}
			}
		}
	}
	same(t, "Of", Of(-123456789), big.NewRat(-123456789, 1))
}

// Something over 0 is infinity, whatever its sign (P14).
func TestInfinity(t *testing.T) {
	for _, top := range []int{1, -1, 12, -12} {
		if got := Lowest(whole.Of(top), whole.Of(0)).Text(); got != "1/0" {
			t.Errorf("%d/0 = %s", top, got)
		}
	}
	if got := Lowest(whole.Of(0), whole.Of(-5)).Text(); got != "0/1" {
		t.Errorf("0/-5 = %s", got)
	}
}
