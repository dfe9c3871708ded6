package tree

import (
	"strconv"
	"strings"
	"testing"

	"reals/api"
)

// dump writes a tree with a bracket around every node, so that two trees are
// the same just if their dumps are.
func dump(n *Node) string {
	if n == nil {
		return "nothing"
	}
	switch n.Kind {
	case Number:
		return strconv.Itoa(n.Value)
	case Pi, E:
		return symbol(n.Kind)
	case Cf:
		text := "<"
		for _, term := range n.Terms {
			text += " " + strconv.Itoa(term)
		}
		return text + ">"
	case Minus:
		return "(neg " + dump(n.Left) + ")"
	case Sqrt, Exp, Ln1p, Atan:
		return "(" + symbol(n.Kind) + " " + dump(n.Left) + ")"
	}
	return "(" + dump(n.Left) + symbol(n.Kind) + dump(n.Right) + ")"
}

func TestP3Trees(t *testing.T) {
	for _, c := range []struct{ s, want string }{
		{"1", "1"},
		{"pi", "pi"},
		{"e", "e"},
		{"1-2-3", "((1-2)-3)"},
		{"1-2+3", "((1-2)+3)"},
		{"1/2/3", "((1/2)/3)"},
		{"1/2*3", "((1/2)*3)"},
		{"1+2*3", "(1+(2*3))"},
		{"1*2+3", "((1*2)+3)"},
		{"1-2*3-4", "((1-(2*3))-4)"},
		{"1-(2-3)", "(1-(2-3))"},
		{"(1+2)*3", "((1+2)*3)"},
		{"-1*2", "((neg 1)*2)"},
		{"-1+2", "((neg 1)+2)"},
		{"-(1*2)", "(neg (1*2))"},
		{"2*-3", "(2*(neg 3))"},
		{"2---3", "(2-(neg (neg 3)))"},
		{"-sqrt(1+2)/e", "((neg (sqrt (1+2)))/e)"},
		{"exp(1)", "(exp 1)"},
		{"ln1p(pi)", "(ln1p pi)"},
		{"atan((2))", "(atan 2)"},
		{"cf[0;1]", "< 0 1>"},
		{"cf[3; 1, 2, 3, 4, 5, 6, 7, 8]-1", "(< 3 1 2 3 4 5 6 7 8>-1)"},
		{"000000012", "12"},
	} {
		root, err, at := Read(c.s)
		if got := dump(root); err != api.OK || at != 0 || got != c.want {
			t.Errorf("Read(%q) = %s, %d, %d, want %s", c.s, got, err, at, c.want)
		}
	}
}

// The states of a machine that walks over words and knows of each whether it
// may stand there: it shares nothing with the reader but the document.
const (
	wantsOperand = iota
	wantsOperator
	wantsBracket
	wantsCfBracket
	wantsCfFirst
	wantsCfSemicolon
	wantsCfTerm
	wantsCfComma
)

// wrongWord tells the number of the first word that cannot stand there, and
// the number of the words if they only end too soon, and -1 if they are a sum.
func wrongWord(list []string) int {
	state, open, terms := wantsOperand, 0, 0
	for i, w := range list {
		number := w == "0" || w == "1"
		switch {
		case state == wantsOperand && (number || w == "pi"):
			state = wantsOperator
		case state == wantsOperand && w == "-":
		case state == wantsOperand && w == "(", state == wantsBracket && w == "(":
			open++
			state = wantsOperand
		case state == wantsOperand && w == "sqrt":
			state = wantsBracket
		case state == wantsOperand && w == "cf":
			state = wantsCfBracket
		case state == wantsOperator && (w == "+" || w == "-" || w == "/"):
			state = wantsOperand
		case state == wantsOperator && w == ")" && open > 0:
			open--
		case state == wantsCfBracket && w == "[":
			state = wantsCfFirst
		case state == wantsCfFirst && number:
			state = wantsCfSemicolon
		case state == wantsCfSemicolon && w == ";":
			state, terms = wantsCfTerm, 0
		case state == wantsCfTerm && w == "1":
			state = wantsCfComma
			terms++
		case state == wantsCfComma && w == "," && terms < 8:
			state = wantsCfTerm
		case state == wantsCfComma && w == "]":
			state = wantsOperator
		default:
			return i
		}
	}
	if state == wantsOperator && open == 0 {
		return -1
	}
	return len(list)
}

// checkPlace reads the words with a blank between each two.
func checkPlace(t *testing.T, list []string) {
	s := strings.Join(list, " ")
	wantErr, wantAt := api.OK, 0
	if wrong := wrongWord(list); wrong >= 0 {
		wantErr, wantAt = api.ErrSyntax, len(s)
		if wrong < len(list) {
			wantAt = len(strings.Join(list[:wrong], " "))
			if wrong > 0 {
				wantAt++
			}
		}
	}
	root, err, at := Read(s)
	if err != wantErr || at != wantAt || (root == nil) != (wantErr != api.OK) {
		t.Fatalf("Read(%q) = %s, %d, %d, want %d, %d", s, dump(root), err, at, wantErr, wantAt)
	}
}

// checkTails checks the words with every tail of at most more words.
func checkTails(t *testing.T, list []string, more int) {
	checkPlace(t, list)
	if more == 0 {
		return
	}
	for _, w := range []string{"0", "1", "pi", "sqrt", "cf", "x", "+", "-", "/", "(", ")", "[", ";", ",", "]", "."} {
		checkTails(t, append(list[:len(list):len(list)], w), more-1)
	}
}

func TestP4EveryShortText(t *testing.T) {
	for _, head := range []string{
		"", "1", "- 1", "( 1", "sqrt (", "1 + ( - pi /", "( sqrt ( ( 1",
		"cf [ 1", "cf [ 0 ;", "- ( cf [ 1 ; 1",
		"cf [ 1 ; 1 , 1 , 1 , 1 , 1 , 1", "cf [ 1 ; 1 , 1 , 1 , 1 , 1 , 1 , 1", "cf [ 1 ; 1 , 1 , 1 , 1 , 1 , 1 , 1 , 1",
	} {
		checkTails(t, strings.Fields(head), 4)
	}
}

func TestP5Counts(t *testing.T) {
	for _, c := range []struct {
		s              string
		deepest, nodes int
	}{
		{"1", 0, 1},
		{"cf[1; 2, 3]", 0, 1},
		{"((1))", 2, 1},
		{"-1+2", 1, 4},
		{"-(-1)", 3, 3},
		{"sqrt(1)", 1, 2},
		{"sqrt((pi))", 2, 2},
		{"exp(-cf[1; 2])*(e)-(((1)))", 3, 7},
		{"(1)+(2)+(3)", 1, 5},
	} {
		r := newReader(c.s)
		root := r.sum()
		if root == nil || r.deepest != c.deepest || r.nodes != c.nodes {
			t.Errorf("%q: depth %d, nodes %d, want %d, %d", c.s, r.deepest, r.nodes, c.deepest, c.nodes)
		}
	}
}
