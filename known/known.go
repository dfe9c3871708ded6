// Package known has what the symbols read so far tell of a value (P14), and
// whether that will do for an answer (P15 to P17).
package known

import (
	"reals/api"
	"reals/matrix"
	"reals/whole"
)

// Known is what is known of a value: it is what the matrix makes of something
// from 0 to infinity.
type Known struct {
	all matrix.Matrix
}

// Nothing is what is known ahead of the first symbol. Of a number without a sign
// it is 0 to infinity, which is no more sound than nothing at all.
func Nothing() Known {
	return Known{all: matrix.Of(1, 0, 0, 1)}
}

// With tells what is known when one more symbol is read.
func (k Known) With(symbol matrix.Symbol) Known {
	return Known{all: k.all.After(symbol.Matrix())}
}

// Beyond tells what is known of 1/(x - term), x being the value.
func (k Known) Beyond(term whole.Int) Known {
	beyond := matrix.Matrix{A: whole.Of(0), B: whole.Of(1), C: whole.Of(1), D: term.Negated()}
	return Known{all: beyond.After(k.all)}
}

// Sound tells whether what is known is sound (P14): c x + d is then not 0 for
// any x from 0 to infinity.
func (k Known) Sound() bool {
	sign := k.all.C.Sign()
	return sign != 0 && sign == k.all.D.Sign()
}

// ends tells between what the value lies, if that is sound. All that is asked
// below is asked of both alike, so it is left open which one is the lesser.
func (k Known) ends() (end, end) {
	first := end{top: k.all.A, bottom: k.all.C}
	second := end{top: k.all.B, bottom: k.all.D}
	return first.upright(), second.upright()
}

// Decimal tells the value times 10 to the n as a whole number (P15): false, if
// too little is known.
func (k Known) Decimal(n int) (whole.Int, bool) {
	if !k.Sound() {
		return whole.Int{}, false
	}
	first, second := k.ends()
	power := whole.Power(10, n)
	first = first.times(power)
	second = second.times(power)
	m := middle(first, second)
	return m, first.isNear(m) && second.isNear(m)
}

// Term tells the next term of the continued fraction (P16): false, if too little
// is known.
func (k Known) Term() (whole.Int, bool) {
	if !k.Sound() {
		return whole.Int{}, false
	}
	first, second := k.ends()
	term := first.floor()
	return term, term.Compare(second.floor()) == 0
}

// Compared tells Greater, Less or Near, as the value is to 0 (P17): false, if
// too little is known.
func (k Known) Compared(bits int) (int, bool) {
	if !k.Sound() {
		return api.Near, false
	}
	first, second := k.ends()
	sign := first.top.Sign()
	if sign != 0 && sign == second.top.Sign() {
		return side(sign), true
	}
	power := whole.Power(2, bits)
	none := whole.Of(0)
	first = first.times(power)
	second = second.times(power)
	return api.Near, first.isNear(none) && second.isNear(none)
}

func side(sign int) int {
	if sign < 0 {
		return api.Less
	}
	return api.Greater
}
