// Package plan works out the fractions of an expression (P7): what is left is
// that of which a network of nodes is made.
package plan

import (
	"reals/api"
	"reals/fraction"
	"reals/tree"
)

// Part is a part of an expression with its fractions worked out.
type Part struct {
	Kind  tree.Kind         // Number of every fraction
	Value fraction.Fraction // of Number
	Terms []int             // of Cf, as in the tree
	Left  *Part             // as in the tree
	Right *Part
}

// Of works out the fractions of a tree; ErrDomain, if one of them cannot be.
func Of(node *tree.Node) (*Part, api.Errno) {
	if node == nil {
		return nil, api.ErrArg
	}
	switch node.Kind {
	case tree.Number:
		return number(fraction.Of(node.Value)), api.OK
	case tree.Pi, tree.E, tree.Cf:
		return constant(node), api.OK
	}
	left, err := Of(node.Left)
	if err != api.OK {
		return nil, err
	}
	switch node.Kind {
	case tree.Minus:
		return minus(left), api.OK
	case tree.Sqrt, tree.Exp, tree.Ln1p, tree.Atan:
		return function(node.Kind, left)
	}
	right, err := Of(node.Right)
	if err != api.OK {
		return nil, err
	}
	return operation(node.Kind, left, right)
}

// IsFraction tells whether all of the part is a fraction.
func (p *Part) IsFraction() bool {
	return p != nil && p.Kind == tree.Number
}

func number(value fraction.Fraction) *Part {
	return &Part{Kind: tree.Number, Value: value}
}

func constant(node *tree.Node) *Part {
	terms := []int{}
	for i := 0; i < len(node.Terms); i++ {
		terms = append(terms, node.Terms[i])
	}
	return &Part{Kind: node.Kind, Terms: terms}
}

func minus(of *Part) *Part {
	if of.IsFraction() {
		return number(of.Value.Negated())
	}
	return &Part{Kind: tree.Minus, Left: of}
}

// function works out a function of 0. Of other fractions it stays what it is.
func function(kind tree.Kind, of *Part) (*Part, api.Errno) {
	if of.IsFraction() {
		switch of.Value.Sign() {
		case -1:
			return nil, api.ErrDomain
		case 0:
			return ofNought(kind), api.OK
		}
	}
	return &Part{Kind: kind, Left: of}, api.OK
}

func ofNought(kind tree.Kind) *Part {
	if kind == tree.Exp {
		return number(fraction.Of(1))
	}
	return number(fraction.Of(0))
}

func operation(kind tree.Kind, left *Part, right *Part) (*Part, api.Errno) {
	if kind == tree.Divide && right.IsFraction() && right.Value.Sign() == 0 {
		return nil, api.ErrDomain
	}
	if left.IsFraction() && right.IsFraction() {
		return number(workedOut(kind, left.Value, right.Value)), api.OK
	}
	return &Part{Kind: kind, Left: left, Right: right}, api.OK
}

func workedOut(kind tree.Kind, left fraction.Fraction, right fraction.Fraction) fraction.Fraction {
	switch kind {
	case tree.Add:
		return left.Plus(right)
	case tree.Subtract:
		return left.Minus(right)
	case tree.Multiply:
		return left.Times(right)
	}
	return left.Over(right)
}
