package network

import (
	"reals/matrix"
	"reals/plan"
	"reals/tree"
)

// constantMatrix tells the matrix k, from 0 on, of pi, e or cf (P11).
func constantMatrix(of *plan.Part, k int) matrix.Matrix {
	switch of.Kind {
	case tree.Pi:
		return piMatrix(k)
	case tree.E:
		return matrix.Of(eTerm(k), 1, 1, 0)
	}
	return matrix.Of(cfTerm(of.Terms, k), 1, 1, 0)
}

func piMatrix(k int) matrix.Matrix {
	if k == 0 {
		return matrix.Of(0, 4, 1, 1)
	}
	return matrix.Of(0, k*k, 1, 2*k+1)
}

func eTerm(k int) int {
	if k == 0 {
		return 2
	}
	if k%3 == 2 {
		return 2 * (k + 1) / 3
	}
	return 1
}

func cfTerm(terms []int, k int) int {
	repeated := len(terms) - 1
	if repeated < 1 || k < 0 {
		return 0
	}
	if k == 0 {
		return terms[0]
	}
	return terms[1+(k-1)%repeated]
}
