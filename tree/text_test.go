package tree

import (
	"strings"
	"testing"

	"reals/api"
)

// trees makes every tree of the kinds that differ in how they bind, up to a depth.
func trees(depth int) []*Node {
	list := []*Node{{Kind: Number, Value: 1}}
	if depth == 0 {
		return list
	}
	parts := trees(depth - 1)
	for _, left := range parts {
		list = append(list, &Node{Kind: Minus, Left: left}, &Node{Kind: Sqrt, Left: left})
		for _, right := range parts {
			for _, kind := range []Kind{Add, Subtract, Multiply, Divide} {
				list = append(list, &Node{Kind: kind, Left: left, Right: right})
			}
		}
	}
	return list
}

// withoutPair takes the bracket at the place open out of s, and the one that
// closes it.
func withoutPair(s string, open int) string {
	depth := 0
	for i := open; i < len(s); i++ {
		switch s[i] {
		case '(':
			depth++
		case ')':
			depth--
		}
		if depth == 0 {
			return s[:open] + s[open+1:i] + s[i+1:]
		}
	}
	return s
}

// The text is read as the tree that it was written from, and without any one
// pair of its brackets it is not.
func TestP6EveryBracketIsNeeded(t *testing.T) {
	for _, n := range trees(3) {
		text, want := n.Text(), dump(n)
		root, err, _ := Read(text)
		if got := dump(root); err != api.OK || got != want {
			t.Fatalf("%s is written %q and read as %s (%d)", want, text, got, err)
		}
		for i := 0; i < len(text); i++ {
			if text[i] != '(' || strings.HasSuffix(text[:i], "sqrt") {
				continue
			}
			shorter := withoutPair(text, i)
			other, _, _ := Read(shorter)
			if dump(other) == want {
				t.Fatalf("%q is as good as %q", shorter, text)
			}
		}
	}
}

func TestP6NoTree(t *testing.T) {
	var none *Node
	if got := none.Text(); got != "" {
		t.Errorf("Text of no tree = %q", got)
	}
	if got := (&Node{}).Text(); got != "" {
		t.Errorf("Text of an empty node = %q", got)
	}
	if got := (&Node{Kind: Add}).Text(); got != " + " {
		t.Errorf("Text of an operation without sides = %q", got)
	}
}
