package network

import (
	"reals/fraction"
	"reals/plan"
	"reals/tree"
	"reals/whole"
)

// functionNode makes the node of a function of a part (P12).
func functionNode(kind tree.Kind, of *plan.Part) *node {
	if of.IsFraction() {
		return ofFraction(kind, of.Value)
	}
	x := made(of)
	if x == nil {
		return nil
	}
	if x.hasSign {
		x = &node{columns: plainColumns(), right: argument{node: x}}
	}
	return &node{unsettled: kind, columns: plainColumns(), right: argument{node: x}}
}

// settle makes a function's node another one, if enough is known of its argument.
func (n *node) settle() {
	if n.unsettled == tree.None || !enough(n.unsettled, n.columns[0], n.columns[1]) {
		return
	}
	next := settled(n.unsettled, n.right.node, n.columns[1])
	*n = *next
}

// enough tells whether a function's argument is known well enough, by the
// columns (h, h') and (l, l').
func enough(kind tree.Kind, high column, low column) bool {
	upper := high.p.Times(low.q)
	lower := low.p.Times(high.q)
	if kind == tree.Sqrt {
		return upper.Compare(lower.Plus(lower)) <= 0
	}
	bound := high.q.Times(low.q)
	switch kind {
	case tree.Ln1p:
		bound = bound.Plus(lower)
	case tree.Atan:
		bound = bound.Plus(high.p.Times(low.p))
	}
	apart := upper.Minus(lower)
	return apart.Times(whole.Of(4)).Compare(bound) <= 0
}

// settled makes the node that takes the place of a function's node, when its
// argument x is not below low.
func settled(kind tree.Kind, x *node, low column) *node {
	least := fraction.Lowest(low.p, low.q)
	if kind == tree.Sqrt {
		return rootNest(x, least)
	}
	if least.Sign() == 0 {
		return &node{columns: plainColumns(), right: argument{node: rest(kind, x)}}
	}
	far := ofFraction(kind, least)
	z := &node{columns: restColumns(kind, least), right: argument{node: x}}
	beyond := rest(kind, z)
	if kind == tree.Exp {
		return operationNode(tree.Multiply, far, beyond)
	}
	return operationNode(tree.Add, far, beyond)
}

// restColumns tells the columns of the node z, of which the function is what it
// is of x beyond that of the least fraction that x may be.
func restColumns(kind tree.Kind, least fraction.Fraction) columns {
	l := least.Top
	under := least.Bottom
	first := column{p: under, q: whole.Of(0)}
	second := column{p: l.Negated(), q: under}
	switch kind {
	case tree.Ln1p:
		second.q = l.Plus(under)
	case tree.Atan:
		first.q = l
	}
	return columns{first, second}
}

// rest makes R, that is nest 0, or of exp the node raised of it.
func rest(kind tree.Kind, z *node) *node {
	all := &nests{kind: kind, first: z, further: z}
	if squares(kind) {
		all.further = operationNode(tree.Multiply, z, z)
	}
	top := all.nest(0)
	if kind == tree.Exp {
		return raised(top)
	}
	return top
}
