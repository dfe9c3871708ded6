// Package network makes a network of nodes of an expression, each of which tells
// its number symbol by symbol (P8 to P12), and counts its steps (P13).
package network

import (
	"reals/matrix"
	"reals/plan"
	"reals/tree"
	"reals/whole"
)

// fuel is what is left of the steps that a request may take.
type fuel struct {
	left int
}

// step takes a step: false, if there is none left.
func (f *fuel) step() bool {
	if f.left < 1 {
		return false
	}
	f.left--
	return true
}

// Number is the number that an expression tells, as far as it is read.
type Number struct {
	whole argument
	fuel  *fuel
}

// New makes a number that may take so many steps: nil of no expression.
func New(part *plan.Part, steps int) *Number {
	top := made(part)
	if top == nil {
		return nil
	}
	return &Number{whole: argument{node: top}, fuel: &fuel{left: steps}}
}

// HasSign tells whether the first symbol is a sign.
func (n *Number) HasSign() bool {
	return n.whole.node != nil && n.whole.node.hasSign
}

// Next reads the next symbol: None, if that wants more steps than there are.
func (n *Number) Next() matrix.Symbol {
	symbol := n.whole.unread(n.fuel)
	if symbol != matrix.None {
		n.whole.read++
	}
	return symbol
}

// made makes the node of a part and those of all that stands in it (P11, P12).
func made(part *plan.Part) *node {
	if part == nil {
		return nil
	}
	switch part.Kind {
	case tree.Number:
		return fractionNode(part.Value.Top, part.Value.Bottom)
	case tree.Pi, tree.E, tree.Cf:
		return constantNode(&constant{kind: part.Kind, terms: part.Terms})
	case tree.Sqrt, tree.Exp, tree.Ln1p, tree.Atan:
		return functionNode(part.Kind, part.Left)
	case tree.Minus:
		return minusNode(made(part.Left))
	case tree.Add, tree.Subtract, tree.Multiply, tree.Divide:
		left := made(part.Left)
		right := made(part.Right)
		return operationNode(part.Kind, left, right)
	}
	return nil
}

func fractionNode(top whole.Int, bottom whole.Int) *node {
	return &node{hasSign: top.Sign() < 0, columns: columns{column{p: top, q: bottom}}}
}

func minusNode(of *node) *node {
	if of == nil {
		return nil
	}
	return &node{
		hasSign: true,
		columns: columns{pair(-1, 0), pair(0, 1)},
		right:   argument{node: of},
	}
}

func operationNode(kind tree.Kind, left *node, right *node) *node {
	if left == nil || right == nil {
		return nil
	}
	return &node{
		hasSign: kind == tree.Subtract || left.hasSign || right.hasSign,
		columns: operationColumns(kind),
		left:    argument{node: left},
		right:   argument{node: right},
	}
}

func operationColumns(kind tree.Kind) columns {
	switch kind {
	case tree.Add:
		return columns{pair(0, 0), pair(1, 0), pair(1, 0), pair(0, 1)}
	case tree.Subtract:
		return columns{pair(0, 0), pair(1, 0), pair(-1, 0), pair(0, 1)}
	case tree.Multiply:
		return columns{pair(1, 0), pair(0, 0), pair(0, 0), pair(0, 1)}
	}
	return columns{pair(0, 0), pair(1, 0), pair(0, 1), pair(0, 0)}
}
