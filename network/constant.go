package network

import (
	"reals/fraction"
	"reals/matrix"
	"reals/tree"
	"reals/whole"
)

// constant is an endless row of matrices: of pi, e, cf (P11), or of a function
// of a fraction (P12).
type constant struct {
	kind   tree.Kind         // of exp the row is that of T
	terms  []int             // of cf
	value  fraction.Fraction // of which it is the function
	square fraction.Fraction // the value times itself
	every  matrix.Matrix     // of sqrt, whose matrices are all the same
}

func constantNode(of *constant) *node {
	return &node{columns: plainColumns(), constant: of}
}

// ofFraction makes the node of a function of a fraction above 0.
func ofFraction(kind tree.Kind, value fraction.Fraction) *node {
	switch kind {
	case tree.Sqrt:
		return constantNode(&constant{kind: kind, every: rootMatrix(value)})
	case tree.Exp:
		return raised(constantNode(seriesOf(kind, value)))
	}
	return constantNode(seriesOf(kind, value))
}

func seriesOf(kind tree.Kind, value fraction.Fraction) *constant {
	return &constant{kind: kind, value: value, square: value.Times(value)}
}

// raised makes of a node that tells T the node that tells exp.
func raised(of *node) *node {
	return &node{columns: columns{pair(1, -1), pair(1, 1)}, right: argument{node: of}}
}

// matrix tells the matrix k, from 0 on.
func (c *constant) matrix(k int) matrix.Matrix {
	switch c.kind {
	case tree.Pi:
		return piMatrix(k)
	case tree.E:
		return matrix.Of(eTerm(k), 1, 1, 0)
	case tree.Cf:
		return matrix.Of(cfTerm(c.terms, k), 1, 1, 0)
	case tree.Sqrt:
		return c.every
	}
	return c.seriesMatrix(k)
}

func piMatrix(k int) matrix.Matrix {
	if k == 0 {
		return matrix.Of(0, 4, 1, 1)
	}
	return matrix.Of(0, k*k, 1, 2*k+1)
}

func eTerm(k int) int {
	if k == 0 {
		return 2
	}
	if k%3 == 2 {
		return 2 * (k + 1) / 3
	}
	return 1
}

func cfTerm(terms []int, k int) int {
	repeated := len(terms) - 1
	if repeated < 1 || k < 0 {
		return 0
	}
	if k == 0 {
		return terms[0]
	}
	return terms[1+(k-1)%repeated]
}

// rootMatrix tells every matrix of the root of a fraction.
func rootMatrix(value fraction.Fraction) matrix.Matrix {
	a, b := near(value)
	middle := a.Times(value.Bottom)
	return matrix.Matrix{A: middle, B: b.Times(value.Top), C: b.Times(value.Bottom), D: middle}
}

func (c *constant) seriesMatrix(k int) matrix.Matrix {
	value := c.value
	if k > 0 && squares(c.kind) {
		value = c.square
	}
	over, plus := factors(c.kind, k)
	return matrix.Matrix{
		A: whole.Of(0),
		B: value.Top.Times(whole.Of(over)),
		C: value.Bottom,
		D: value.Bottom.Times(whole.Of(plus)),
	}
}

// squares tells whether a function's matrices and nests from 1 on are of the
// square of that of which it is the function.
func squares(kind tree.Kind) bool {
	return kind == tree.Atan || kind == tree.Exp
}

// factors tells c and d of the matrix or nest k of ln1p, atan, T.
func factors(kind tree.Kind, k int) (int, int) {
	if kind == tree.Exp {
		return 1, 4*k + 2
	}
	if k == 0 {
		return 1, 1
	}
	if kind == tree.Atan {
		return k * k, 2*k + 1
	}
	half := (k + 1) / 2
	return half * half, k + 1
}

// leastRoot is how great a of NEAR has to be.
const leastRoot = 16

// near tells a and b of NEAR(r) of r above 0.
func near(r fraction.Fraction) (whole.Int, whole.Int) {
	least := whole.Of(leastRoot)
	b := whole.Of(1)
	// No b would do of 0 or infinity.
	for r.Top.Sign() > 0 && r.Bottom.Sign() > 0 {
		square := b.Times(b)
		cut, _ := square.Times(r.Top).Divided(r.Bottom)
		a := cut.Root()
		if a.Compare(least) >= 0 {
			return a, b
		}
		b = b.Plus(b)
	}
	return least, b
}
