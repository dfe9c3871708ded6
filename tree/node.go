// Package tree has the tree of an expression: how it is read from a text and
// how it is written.
package tree

// Kind tells what a node is.
type Kind int

// The kinds of nodes.
const (
	None     Kind = 0 // no node that Read makes
	Number   Kind = 1
	Pi       Kind = 2
	E        Kind = 3
	Cf       Kind = 4
	Minus    Kind = 5 // the minus sign of one thing
	Add      Kind = 6
	Subtract Kind = 7
	Multiply Kind = 8
	Divide   Kind = 9
	Sqrt     Kind = 10
	Exp      Kind = 11
	Ln1p     Kind = 12
	Atan     Kind = 13
)

// Node is a node of the tree. Once Read has given it nothing changes it.
type Node struct {
	Kind  Kind
	Value int   // of Number
	Terms []int // of Cf: first the one ahead of the ; then those that come again
	Left  *Node // what a minus sign or a function is of, or the left side of an operation
	Right *Node // the right side of an operation
}

// named tells which constant, function or cf a name stands for, None if for none.
func named(name string) Kind {
	switch name {
	case "pi":
		return Pi
	case "e":
		return E
	case "cf":
		return Cf
	case "sqrt":
		return Sqrt
	case "exp":
		return Exp
	case "ln1p":
		return Ln1p
	case "atan":
		return Atan
	}
	return None
}

// symbol tells how a kind is written: its name or the sign of its operation.
func symbol(kind Kind) string {
	switch kind {
	case Pi:
		return "pi"
	case E:
		return "e"
	case Cf:
		return "cf"
	case Sqrt:
		return "sqrt"
	case Exp:
		return "exp"
	case Ln1p:
		return "ln1p"
	case Atan:
		return "atan"
	case Add:
		return "+"
	case Minus, Subtract:
		return "-"
	case Multiply:
		return "*"
	case Divide:
		return "/"
	}
	return ""
}
