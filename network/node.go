package network

import (
	"reals/matrix"
	"reals/tree"
)

// node tells a number symbol by symbol (P9).
type node struct {
	hasSign   bool
	columns   columns
	constant  *constant // whose matrices it reads; nil of a node that is no constant
	matrices  int       // how many of them it has read
	left      argument
	right     argument // a node of one argument has it here
	given     []matrix.Symbol
	unsettled tree.Kind // the function, till enough is known of its argument; else None
	nests     *nests    // of which it is one; else nil
	place     int       // among them
}

// argument is what a node reads of: no node, if there is none.
type argument struct {
	node *node
	read int // how many of its symbols were read
}

// wantsSign tells whether the argument has a sign that was not read.
func (a argument) wantsSign() bool {
	return a.node != nil && a.node.hasSign && a.read == 0
}

// digits tells how many digits were read of the argument.
func (a argument) digits() int {
	if a.node != nil && a.node.hasSign && a.read > 0 {
		return a.read - 1
	}
	return a.read
}

// unread tells the argument's first symbol that was not read: None, if there is
// no argument or the fuel does not do.
func (a argument) unread(f *fuel) matrix.Symbol {
	if a.node == nil {
		return matrix.None
	}
	return a.node.symbol(a.read, f)
}

// symbol tells the symbol at a place, from 0 on: None, if the fuel does not do.
func (n *node) symbol(place int, f *fuel) matrix.Symbol {
	for len(n.given) <= place {
		if !n.goOn(f) {
			return matrix.None
		}
	}
	if place < 0 {
		return matrix.None
	}
	return n.given[place]
}

// goOn gives a symbol, if the node can, else reads one: false, if the fuel does not do.
func (n *node) goOn(f *fuel) bool {
	next := n.next()
	if next == matrix.None {
		return n.readMore(f)
	}
	if !f.step() {
		return false
	}
	n.columns = n.columns.give(next.Matrix()).halved()
	n.given = append(n.given, next)
	return true
}

// next tells the symbol that the node can give now, or None.
func (n *node) next() matrix.Symbol {
	if n.unsettled != tree.None || n.left.wantsSign() || n.right.wantsSign() {
		return matrix.None
	}
	if n.hasSign && len(n.given) == 0 {
		return n.firstOf([4]matrix.Symbol{matrix.Plus, matrix.Minus, matrix.Small, matrix.Great})
	}
	return n.firstOf([4]matrix.Symbol{matrix.Low, matrix.High, matrix.Middle, matrix.None})
}

// firstOf tells the first of some symbols that the node can give, or None.
func (n *node) firstOf(list [4]matrix.Symbol) matrix.Symbol {
	for i := 0; i < len(list); i++ {
		if list[i] == matrix.None {
			return matrix.None
		}
		if n.columns.fitAfter(list[i].Matrix()) {
			return list[i]
		}
	}
	return matrix.None
}

// readMore reads a matrix or a symbol: false, if the fuel does not do.
func (n *node) readMore(f *fuel) bool {
	if n.constant != nil {
		return n.readConstant(f)
	}
	if n.readsLeft() {
		return n.readLeft(f)
	}
	return n.readRight(f)
}

func (n *node) readLeft(f *fuel) bool {
	symbol := n.left.unread(f)
	if symbol == matrix.None || !f.step() {
		return false
	}
	n.left.read++
	n.columns = n.columns.readLeft(symbol.Matrix()).halved()
	return true
}

func (n *node) readRight(f *fuel) bool {
	if n.nests != nil && n.right.node == nil {
		n.right.node = n.nests.nest(n.place + 1)
	}
	symbol := n.right.unread(f)
	if symbol == matrix.None || !f.step() {
		return false
	}
	n.right.read++
	n.columns = n.columns.readRight(symbol.Matrix()).halved()
	n.settle()
	return true
}

func (n *node) readConstant(f *fuel) bool {
	if !f.step() {
		return false
	}
	next := n.constant.matrix(n.matrices)
	n.matrices++
	n.columns = n.columns.readRight(next).halved()
	return true
}

// readsLeft tells whether the node reads of its left argument (P10).
func (n *node) readsLeft() bool {
	if n.left.node == nil {
		return false
	}
	if n.left.wantsSign() {
		return true
	}
	if n.right.wantsSign() {
		return false
	}
	if n.columns.fit() {
		switch compareWidths(n.columns, n.leftWeight()) {
		case 1:
			return true
		case -1:
			return false
		}
	}
	return n.left.digits() <= n.right.digits()
}

// leftWeight tells how often the left width counts (P10).
func (n *node) leftWeight() int {
	if n.nests != nil {
		return 8
	}
	return 1
}
