// Package reals: exact real numbers: see DOC.md.
package reals

import (
	"reals/api"
	"reals/matrix"
	"reals/plan"
	"reals/tree"
)

// Expr is an expression. Nothing changes it once it is read.
type Expr struct {
	root *tree.Node
}

// Read reads a text (P3 to P5): the expression, the error, the place.
func Read(s string) (*Expr, api.Errno, int) {
	root, err, at := tree.Read(s)
	if err != api.OK {
		return nil, err, at
	}
	return &Expr{root: root}, api.OK, 0
}

// Text writes the expression (P6).
func (x *Expr) Text() string {
	if x == nil {
		return ""
	}
	return x.root.Text()
}

// Digits tells the sign and k digits (P14).
func (x *Expr) Digits(k int, fuel int) (string, api.Errno) {
	list, err := x.symbols(k, fuel)
	if err != api.OK {
		return "", err
	}
	text := []byte{}
	for i := 0; i < len(list); i++ {
		text = append(text, list[i].Letter())
	}
	return string(text), api.OK
}

// Encloses tells between what the value lies by the sign and k digits (P14).
func (x *Expr) Encloses(k int, fuel int) (string, string, api.Errno) {
	list, err := x.symbols(k, fuel)
	if err != api.OK {
		return "", "", err
	}
	all := matrix.Of(1, 0, 0, 1)
	for i := 0; i < len(list); i++ {
		all = all.After(list[i].Matrix())
	}
	return all.OfNought().Text(), all.OfInfinity().Text(), api.OK
}

// Decimal tells the value times 10 to the n as a whole number (P15).
func (x *Expr) Decimal(n int, fuel int) (string, api.Errno) {
	part, err := x.begin(n, fuel)
	if err != api.OK {
		return "", err
	}
	m, err := decimal(part, n, fuel)
	if err != api.OK {
		return "", err
	}
	return m.Text(), api.OK
}

// Terms tells k terms of the continued fraction (P16).
func (x *Expr) Terms(k int, fuel int) ([]string, api.Errno) {
	part, err := x.begin(k, fuel)
	if err != api.OK {
		return nil, err
	}
	if part.IsFraction() {
		return texts(part.Value.Terms(k)), api.OK
	}
	list, err := terms(part, k, fuel)
	if err != api.OK {
		return nil, err
	}
	return texts(list), api.OK
}

// Compare tells which of two values is the greater (P17).
func Compare(x *Expr, y *Expr, bits int, fuel int) (int, api.Errno) {
	left, err := x.begin(bits, fuel)
	if err != api.OK {
		return 0, err
	}
	right, err := y.begin(bits, fuel)
	if err != api.OK {
		return 0, err
	}
	if left.IsFraction() && right.IsFraction() {
		return left.Value.Compare(right.Value), api.OK
	}
	apart := &plan.Part{Kind: tree.Subtract, Left: left, Right: right}
	return compared(apart, bits, fuel)
}
