// Package fraction has fractions of whole numbers of any size.
package fraction

import "reals/whole"

// Fraction is Top/Bottom in lowest terms, Bottom not below 0. The zero value is
// no fraction.
type Fraction struct {
	Top    whole.Int
	Bottom whole.Int
}

// Lowest makes a fraction. Something over 0 is infinity, which has no sign: 1/0.
func Lowest(top whole.Int, bottom whole.Int) Fraction {
	factor := whole.CommonFactor(top, bottom)
	if bottom.Sign() < 0 || (bottom.Sign() == 0 && top.Sign() < 0) {
		top = top.Negated()
		bottom = bottom.Negated()
	}
	lowTop, _ := top.Divided(factor)
	lowBottom, _ := bottom.Divided(factor)
	return Fraction{Top: lowTop, Bottom: lowBottom}
}

// Of makes a fraction of an int.
func Of(n int) Fraction {
	return Fraction{Top: whole.Of(n), Bottom: whole.Of(1)}
}

// Sign tells -1, 0 or 1.
func (f Fraction) Sign() int {
	return f.Top.Sign()
}

// Negated tells -f.
func (f Fraction) Negated() Fraction {
	return Fraction{Top: f.Top.Negated(), Bottom: f.Bottom}
}

// Plus tells f + g.
func (f Fraction) Plus(g Fraction) Fraction {
	first := f.Top.Times(g.Bottom)
	second := g.Top.Times(f.Bottom)
	return Lowest(first.Plus(second), f.Bottom.Times(g.Bottom))
}

// Minus tells f - g.
func (f Fraction) Minus(g Fraction) Fraction {
	return f.Plus(g.Negated())
}

// Times tells f * g.
func (f Fraction) Times(g Fraction) Fraction {
	return Lowest(f.Top.Times(g.Top), f.Bottom.Times(g.Bottom))
}

// Over tells f / g of g that is not 0.
func (f Fraction) Over(g Fraction) Fraction {
	return Lowest(f.Top.Times(g.Bottom), f.Bottom.Times(g.Top))
}

// Compare tells -1, 0 or 1, as f is less than g, equal or greater.
func (f Fraction) Compare(g Fraction) int {
	return f.Minus(g).Sign()
}

// Terms tells the terms of the continued fraction, k of them at the most.
func (f Fraction) Terms(k int) []whole.Int {
	list := []whole.Int{}
	top := f.Top
	bottom := f.Bottom
	for len(list) < k && bottom.Sign() > 0 {
		term, rest := top.Divided(bottom)
		list = append(list, term)
		top = bottom
		bottom = rest
	}
	return list
}

// Text writes the fraction, its denominator too if that is 1.
func (f Fraction) Text() string {
	return f.Top.Text() + "/" + f.Bottom.Text()
}
