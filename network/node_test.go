package network

import (
	"testing"

	"reals/api"
	"reals/matrix"
	"reals/plan"
	"reals/tree"
)

func planned(t *testing.T, s string) *plan.Part {
	t.Helper()
	root, _, _ := tree.Read(s)
	part, err := plan.Of(root)
	if err != api.OK {
		t.Fatalf("%q: %d", s, err)
	}
	return part
}

func TestP10ReadsLeft(t *testing.T) {
	plain := &node{}
	signed := &node{hasSign: true}
	wide := four(1, 0, 1, 0, 0, 1, 0, 1)
	high := four(1, 0, 0, 1, 1, 0, 0, 1)
	even := four(1, 2, 1, 2, 1, 2, 1, 2)
	unfit := four(1, 0, 1, 0, 0, 1, 0, -1)
	for i, c := range []struct {
		columns     columns
		left, right argument
		want        bool
	}{
		// Signs go ahead, the left one's first.
		{high, argument{signed, 0}, argument{signed, 0}, true},
		{high, argument{signed, 0}, argument{plain, 0}, true},
		{wide, argument{plain, 0}, argument{signed, 0}, false},
		{wide, argument{signed, 1}, argument{signed, 0}, false},
		// Then widths.
		{wide, argument{plain, 9}, argument{plain, 0}, true},
		{high, argument{plain, 0}, argument{plain, 9}, false},
		{wide, argument{signed, 9}, argument{signed, 1}, true},
		// Then digits, of which signs are none.
		{even, argument{plain, 0}, argument{plain, 0}, true},
		{even, argument{plain, 3}, argument{plain, 3}, true},
		{even, argument{plain, 3}, argument{plain, 2}, false},
		{even, argument{plain, 2}, argument{plain, 3}, true},
		{even, argument{signed, 4}, argument{plain, 3}, true},
		{even, argument{plain, 3}, argument{signed, 3}, false},
		{even, argument{plain, 3}, argument{signed, 4}, true},
		// Widths do not count if the columns do not fit.
		{unfit, argument{plain, 1}, argument{plain, 0}, false},
		{unfit, argument{plain, 1}, argument{plain, 1}, true},
	} {
		n := &node{columns: c.columns, left: c.left, right: c.right}
		if n.readsLeft() != c.want {
			t.Errorf("P10: case %d: reads of the left: %v", i, !c.want)
		}
	}
}

func TestP11Constants(t *testing.T) {
	for _, c := range []struct {
		s    string
		want []matrix.Matrix
	}{
		{"pi", []matrix.Matrix{matrix.Of(0, 4, 1, 1), matrix.Of(0, 1, 1, 3), matrix.Of(0, 4, 1, 5), matrix.Of(0, 9, 1, 7)}},
		{"e", []matrix.Matrix{matrix.Of(2, 1, 1, 0), matrix.Of(1, 1, 1, 0), matrix.Of(2, 1, 1, 0), matrix.Of(1, 1, 1, 0), matrix.Of(1, 1, 1, 0), matrix.Of(4, 1, 1, 0), matrix.Of(1, 1, 1, 0), matrix.Of(1, 1, 1, 0), matrix.Of(6, 1, 1, 0)}},
		{"cf[7; 5]", []matrix.Matrix{matrix.Of(7, 1, 1, 0), matrix.Of(5, 1, 1, 0), matrix.Of(5, 1, 1, 0)}},
		{"cf[0; 1, 2, 3]", []matrix.Matrix{matrix.Of(0, 1, 1, 0), matrix.Of(1, 1, 1, 0), matrix.Of(2, 1, 1, 0), matrix.Of(3, 1, 1, 0), matrix.Of(1, 1, 1, 0), matrix.Of(2, 1, 1, 0), matrix.Of(3, 1, 1, 0), matrix.Of(1, 1, 1, 0)}},
	} {
		n := made(planned(t, c.s))
		for k, want := range c.want {
			got := n.constant.matrix(k)
			if got.A.Compare(want.A) != 0 || got.B.Compare(want.B) != 0 || got.C.Compare(want.C) != 0 || got.D.Compare(want.D) != 0 {
				t.Errorf("P11: matrix %d of %s is (%s %s; %s %s)", k, c.s, got.A.Text(), got.B.Text(), got.C.Text(), got.D.Text())
			}
		}
	}
	if cfTerm(nil, 3) != 0 || cfTerm([]int{1}, 3) != 0 || cfTerm([]int{1, 2}, -1) != 0 {
		t.Errorf("terms of no cf")
	}
}

func TestP11Nodes(t *testing.T) {
	for _, c := range []struct {
		s       string
		hasSign bool
		columns columns
	}{
		{"7/2", false, columns{pair(7, 2)}},
		{"0", false, columns{pair(0, 1)}},
		{"-7/2", true, columns{pair(-7, 2)}},
		{"pi", false, columns{pair(1, 0), pair(0, 1)}},
		{"e", false, columns{pair(1, 0), pair(0, 1)}},
		{"cf[1; 2]", false, columns{pair(1, 0), pair(0, 1)}},
		{"-pi", true, columns{pair(-1, 0), pair(0, 1)}},
		{"--pi", true, columns{pair(-1, 0), pair(0, 1)}},
		{"pi + e", false, four(0, 0, 1, 0, 1, 0, 0, 1)},
		{"pi - e", true, four(0, 0, 1, 0, -1, 0, 0, 1)},
		{"pi * e", false, four(1, 0, 0, 0, 0, 0, 0, 1)},
		{"pi / e", false, four(0, 0, 1, 0, 0, 1, 0, 0)},
		{"-pi + e", true, four(0, 0, 1, 0, 1, 0, 0, 1)},
		{"pi * -e", true, four(1, 0, 0, 0, 0, 0, 0, 1)},
		{"-1 / e", true, four(0, 0, 1, 0, 0, 1, 0, 0)},
		{"1 + pi * (e - 3)", true, four(0, 0, 1, 0, 1, 0, 0, 1)},
	} {
		n := made(planned(t, c.s))
		if n == nil || n.hasSign != c.hasSign || text(n.columns) != text(c.columns) {
			t.Errorf("P11: the node of %s: %v", c.s, n)
		}
	}
}

// Each place has its own node: what one reads the other does not skip.
func TestP11OwnNodes(t *testing.T) {
	n := made(planned(t, "pi - pi"))
	n.symbol(5, &fuel{left: 3000})
	left := n.left.node
	right := n.right.node
	if left.matrices == 0 || right.matrices == 0 || n.left.read == 0 || n.right.read == 0 {
		t.Errorf("P11: %d and %d matrices, %d and %d symbols", left.matrices, right.matrices, n.left.read, n.right.read)
	}
}

// P9: as long as an argument's sign was not read a node gives nothing.
func TestP9SignsFirst(t *testing.T) {
	n := made(planned(t, "1/(pi - 2)"))
	if got := n.next(); got != matrix.None {
		t.Errorf("P9: it gives %c ahead of the sign", got.Letter())
	}
	// Without the rule this one could give its first digit at once.
	early := &node{columns: columns{pair(0, 1), pair(1, 1)}, right: argument{node: &node{hasSign: true}}}
	if got := early.next(); got != matrix.None {
		t.Errorf("P9: it gives %c ahead of the sign", got.Letter())
	}
	early.right.read = 1
	if got := early.next(); got != matrix.Low {
		t.Errorf("P9: it gives %c", got.Letter())
	}
}

// P9: of several symbols that can be given the first one is.
func TestP9Order(t *testing.T) {
	for _, c := range []struct {
		columns  columns
		hasSign  bool
		gave     int
		expected matrix.Symbol
	}{
		{columns{pair(1, 2)}, true, 0, matrix.Plus},
		{columns{pair(0, 1)}, true, 0, matrix.Plus},
		{columns{pair(-1, 2)}, true, 0, matrix.Minus},
		{columns{pair(-1, 2), pair(1, 2)}, true, 0, matrix.Small},
		{columns{pair(3, 2), pair(-3, 2)}, true, 0, matrix.None},
		{columns{pair(3, 2), pair(3, -2)}, true, 0, matrix.Great},
		{columns{pair(-3, 1), pair(1, 2)}, true, 0, matrix.None},
		{columns{pair(1, 1)}, true, 1, matrix.Low},
		{columns{pair(1, 1)}, false, 0, matrix.Low},
		{columns{pair(2, 1)}, false, 0, matrix.High},
		{columns{pair(1, 0)}, false, 0, matrix.High},
		{columns{pair(1, 2), pair(2, 1)}, false, 0, matrix.Middle},
		{columns{pair(1, 4), pair(2, 1)}, false, 0, matrix.None},
		{columns{pair(-1, -4), pair(-1, -1)}, false, 3, matrix.Low},
	} {
		n := &node{hasSign: c.hasSign, columns: c.columns, given: make([]matrix.Symbol, c.gave)}
		if got := n.next(); got != c.expected {
			t.Errorf("P9: of %s the next is %c, want %c", text(c.columns), got.Letter(), c.expected.Letter())
		}
	}
}

// P9: whoever reads a node begins with its first symbol, and it gives each once.
func TestP9TwoReaders(t *testing.T) {
	shared := made(planned(t, "pi"))
	product := operationNode(tree.Multiply, shared, shared)
	f := &fuel{left: 3000}
	for i := 0; i < 10; i++ {
		product.symbol(i, f)
	}
	alone := made(planned(t, "pi"))
	for i := range shared.given {
		if got := alone.symbol(i, &fuel{left: 3000}); got != shared.given[i] {
			t.Errorf("P9: symbol %d is %c, alone %c", i, shared.given[i].Letter(), got.Letter())
		}
	}
	most := product.left.read
	if product.right.read > most {
		most = product.right.read
	}
	if len(shared.given) != most {
		t.Errorf("P9: it gave %d symbols, %d were read", len(shared.given), most)
	}
	steps := len(product.given) + product.left.read + product.right.read + len(shared.given) + shared.matrices
	if 3000-f.left != steps {
		t.Errorf("P13: %d steps, want %d", 3000-f.left, steps)
	}
}

func TestNoNode(t *testing.T) {
	if New(nil, 10) != nil || New(&plan.Part{}, 10) != nil {
		t.Errorf("a number of nothing")
	}
	if minusNode(nil) != nil || operationNode(tree.Add, nil, nil) != nil {
		t.Errorf("a node of nothing")
	}
	if functionNode(tree.Sqrt, nil) != nil || functionNode(tree.Exp, &plan.Part{}) != nil {
		t.Errorf("a function of nothing")
	}
	n := &node{columns: columns{pair(0, 0)}}
	if got := n.symbol(0, &fuel{left: 10}); got != matrix.None {
		t.Errorf("a node without arguments gives %d", got)
	}
	if got := n.symbol(-1, &fuel{left: 10}); got != matrix.None {
		t.Errorf("symbol -1 is %d", got)
	}
}
