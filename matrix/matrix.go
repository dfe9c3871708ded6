// Package matrix has matrices and the symbols that stand for seven of them.
package matrix

import (
	"reals/fraction"
	"reals/whole"
)

// Matrix (a b; c d) maps x to (a x + b)/(c x + d).
type Matrix struct {
	A whole.Int
	B whole.Int
	C whole.Int
	D whole.Int
}

// Of makes a matrix of ints.
func Of(a int, b int, c int, d int) Matrix {
	return Matrix{A: whole.Of(a), B: whole.Of(b), C: whole.Of(c), D: whole.Of(d)}
}

// After tells the matrix that maps x to what m makes of what n makes of x.
func (m Matrix) After(n Matrix) Matrix {
	return Matrix{
		A: pairs(m.A, n.A, m.B, n.C),
		B: pairs(m.A, n.B, m.B, n.D),
		C: pairs(m.C, n.A, m.D, n.C),
		D: pairs(m.C, n.B, m.D, n.D),
	}
}

// OfNought tells what the matrix makes of 0.
func (m Matrix) OfNought() fraction.Fraction {
	return fraction.Lowest(m.B, m.D)
}

// OfInfinity tells what the matrix makes of infinity.
func (m Matrix) OfInfinity() fraction.Fraction {
	return fraction.Lowest(m.A, m.C)
}

// pairs tells a x + b y.
func pairs(a whole.Int, x whole.Int, b whole.Int, y whole.Int) whole.Int {
	first := a.Times(x)
	second := b.Times(y)
	return first.Plus(second)
}
