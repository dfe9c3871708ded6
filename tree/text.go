package tree

import "strconv"

// How strongly a node binds.
const (
	sumRank     = 1
	productRank = 2
	minusRank   = 3
	atomRank    = 4
)

// Text writes the tree with as few brackets as will do (P6).
func (n *Node) Text() string {
	if n == nil {
		return ""
	}
	switch n.Kind {
	case Number:
		return strconv.Itoa(n.Value)
	case Cf:
		return termsText(n.Terms)
	case Minus:
		inner := n.Left.textOfRank(minusRank)
		return "-" + inner
	case Sqrt, Exp, Ln1p, Atan:
		inner := n.Left.Text()
		return symbol(n.Kind) + "(" + inner + ")"
	case Add, Subtract, Multiply, Divide:
		own := rank(n.Kind)
		left := n.Left.textOfRank(own)
		right := n.Right.textOfRank(own + 1)
		return left + " " + symbol(n.Kind) + " " + right
	}
	return symbol(n.Kind)
}

// textOfRank writes the tree, in brackets if it binds less than is asked for.
func (n *Node) textOfRank(least int) string {
	text := n.Text()
	if n == nil || rank(n.Kind) >= least {
		return text
	}
	return "(" + text + ")"
}

func rank(kind Kind) int {
	switch kind {
	case Add, Subtract:
		return sumRank
	case Multiply, Divide:
		return productRank
	case Minus:
		return minusRank
	}
	return atomRank
}

func termsText(terms []int) string {
	text := "cf["
	for i := 0; i < len(terms); i++ {
		if i == 1 {
			text += "; "
		}
		if i > 1 {
			text += ", "
		}
		text += strconv.Itoa(terms[i])
	}
	return text + "]"
}
