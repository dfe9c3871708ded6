package network

import (
	"reals/fraction"
	"reals/tree"
	"reals/whole"
)

// nests are those of one function (P12). Each is made when it is wanted, as
// there is no last one.
type nests struct {
	kind    tree.Kind // of exp they are those of T
	first   *node     // the left argument of nest 0
	further *node     // that of all others
	root    columns   // of sqrt, whose nests are all the same
}

// rootNest makes the first nest of the root of x that is not below least.
func rootNest(x *node, least fraction.Fraction) *node {
	a, b := near(least)
	none := whole.Of(0)
	root := columns{pair(0, 0), column{p: b, q: none}, column{p: a, q: b}, column{p: none, q: a}}
	all := &nests{kind: tree.Sqrt, first: x, further: x, root: root}
	return all.nest(0)
}

// nest makes the nest k.
func (all *nests) nest(k int) *node {
	left := all.first
	if k > 0 {
		left = all.further
	}
	return &node{nests: all, place: k, columns: all.columnsOf(k), left: argument{node: left}}
}

func (all *nests) columnsOf(k int) columns {
	if all.kind == tree.Sqrt {
		return all.root
	}
	over, plus := factors(all.kind, k)
	return columns{pair(0, 0), pair(over, 0), pair(0, 1), pair(0, plus)}
}
