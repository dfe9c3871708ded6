package network

import (
	"testing"

	"reals/fraction"
	"reals/matrix"
	"reals/tree"
	"reals/whole"
)

func ratio(p, q int) fraction.Fraction {
	return fraction.Lowest(whole.Of(p), whole.Of(q))
}

func textOf(m matrix.Matrix) string {
	return m.A.Text() + " " + m.B.Text() + "; " + m.C.Text() + " " + m.D.Text()
}

func TestP12Near(t *testing.T) {
	for _, c := range []struct{ p, q, a, b int }{
		{256, 1, 16, 1},
		{255, 1, 31, 2},
		{511, 2, 31, 2}, // 255.5 is cut ahead of its root
		{257, 1, 16, 1},
		{288, 1, 16, 1},
		{289, 1, 17, 1},
		{1000, 1, 31, 1},
		{2, 1, 22, 16},
		{1, 1, 16, 16},
		{64, 1, 16, 2},
		{63, 1, 31, 4},
		{1, 3, 18, 32},
		{1, 1000000, 16, 16384},
		{999999999, 1, 31622, 1},
		{999999999, 1000000000, 31, 32},
	} {
		a, b := near(ratio(c.p, c.q))
		if a.Text() != whole.Of(c.a).Text() || b.Text() != whole.Of(c.b).Text() {
			t.Errorf("P12: NEAR(%d/%d) is %s, %s, want %d, %d", c.p, c.q, a.Text(), b.Text(), c.a, c.b)
		}
	}
	// There is none of 0 and infinity: but it ends.
	near(ratio(0, 1))
	near(ratio(1, 0))
}

func TestP12Constants(t *testing.T) {
	for _, c := range []struct {
		kind tree.Kind
		p, q int
		want []string
	}{
		{tree.Sqrt, 2, 1, []string{"22 32; 16 22", "22 32; 16 22", "22 32; 16 22"}},
		{tree.Sqrt, 1, 3, []string{"54 32; 96 54", "54 32; 96 54"}},
		{tree.Ln1p, 2, 3, []string{"0 2; 3 3", "0 2; 3 6", "0 2; 3 9", "0 8; 3 12", "0 8; 3 15", "0 18; 3 18"}},
		{tree.Atan, 2, 3, []string{"0 2; 3 3", "0 4; 9 27", "0 16; 9 45", "0 36; 9 63", "0 64; 9 81"}},
		{tree.Exp, 2, 3, []string{"0 2; 3 6", "0 4; 9 54", "0 4; 9 90", "0 4; 9 126"}},
	} {
		n := ofFraction(c.kind, ratio(c.p, c.q))
		if c.kind == tree.Exp {
			if text(n.columns) != "(1, -1)(1, 1)(0, 0)(0, 0)" || n.constant != nil || n.hasSign {
				t.Errorf("P12: the node raised: %v", n)
			}
			n = n.right.node
		}
		if text(n.columns) != "(1, 0)(0, 1)(0, 0)(0, 0)" || n.hasSign {
			t.Errorf("P12: the columns are %s", text(n.columns))
		}
		for k, want := range c.want {
			if got := textOf(n.constant.matrix(k)); got != want {
				t.Errorf("P12: matrix %d of function %d is (%s), want (%s)", k, c.kind, got, want)
			}
		}
	}
}

// P12: enough and just not enough.
func TestP12Enough(t *testing.T) {
	for _, c := range []struct {
		kind                   tree.Kind
		low, under, high, most int
		want                   bool
	}{
		{tree.Sqrt, 1, 1, 2, 1, true},
		{tree.Sqrt, 1, 1, 201, 100, false},
		{tree.Sqrt, 0, 1, 1, 1000, false},
		{tree.Sqrt, 3, 7, 6, 7, true},
		{tree.Sqrt, 5, 1, 1, 0, false},
		{tree.Exp, 3, 1, 13, 4, true},
		{tree.Exp, 3, 1, 131, 40, false},
		{tree.Exp, 0, 1, 1, 4, true},
		{tree.Exp, 0, 1, 2, 7, false},
		{tree.Exp, 5, 1, 1, 0, false},
		{tree.Ln1p, 3, 1, 4, 1, true},
		{tree.Ln1p, 3, 1, 41, 10, false},
		{tree.Ln1p, 0, 1, 1, 4, true},
		{tree.Ln1p, 0, 1, 2, 7, false},
		{tree.Ln1p, 5, 1, 1, 0, false},
		{tree.Atan, 1, 1, 5, 3, true},
		{tree.Atan, 1, 1, 17, 10, false},
		{tree.Atan, 0, 1, 1, 4, true},
		{tree.Atan, 0, 1, 2, 7, false},
		{tree.Atan, 4, 1, 1, 0, true},
		{tree.Atan, 39, 10, 1, 0, false},
	} {
		if enough(c.kind, pair(c.high, c.most), pair(c.low, c.under)) != c.want {
			t.Errorf("P12: function %d, from %d/%d to %d/%d: %v", c.kind, c.low, c.under, c.high, c.most, !c.want)
		}
	}
}

// P12: what F becomes.
func TestP12Settled(t *testing.T) {
	x := made(planned(t, "pi"))
	root := settled(tree.Sqrt, x, pair(6, 4))
	// NEAR(3/2): 256 * 3/2 is 384, its root 19.
	if text(root.columns) != "(0, 0)(16, 0)(19, 16)(0, 19)" || root.nests == nil || root.left.node != x || root.right.node != nil {
		t.Errorf("P12: the nest of sqrt: %s", text(root.columns))
	}
	for _, c := range []struct {
		kind        tree.Kind
		sum, z      string
		far, beyond string
	}{
		{tree.Exp, "(1, 0)(0, 0)(0, 0)(0, 1)", "(2, 0)(-3, 2)(0, 0)(0, 0)", "0 3; 2 4", "(0, 0)(1, 0)(0, 1)(0, 2)"},
		{tree.Ln1p, "(0, 0)(1, 0)(1, 0)(0, 1)", "(2, 0)(-3, 5)(0, 0)(0, 0)", "0 3; 2 2", "(0, 0)(1, 0)(0, 1)(0, 1)"},
		{tree.Atan, "(0, 0)(1, 0)(1, 0)(0, 1)", "(2, 3)(-3, 2)(0, 0)(0, 0)", "0 3; 2 2", "(0, 0)(1, 0)(0, 1)(0, 1)"},
	} {
		f := settled(c.kind, x, pair(6, 4))
		if text(f.columns) != c.sum || f.hasSign || f.nests != nil {
			t.Errorf("P12: F of %d: %s", c.kind, text(f.columns))
		}
		far, nest := f.left.node, f.right.node
		if c.kind == tree.Exp {
			if text(far.columns) != "(1, -1)(1, 1)(0, 0)(0, 0)" || text(nest.columns) != text(far.columns) {
				t.Errorf("P12: raised: %s, %s", text(far.columns), text(nest.columns))
			}
			far, nest = far.right.node, nest.right.node
		}
		if got := textOf(far.constant.matrix(0)); got != c.far {
			t.Errorf("P12: left of F of %d: %s", c.kind, got)
		}
		if text(nest.columns) != c.beyond || nest.nests == nil || nest.hasSign {
			t.Errorf("P12: right of F of %d: %s", c.kind, text(nest.columns))
		}
		z := nest.left.node
		if text(z.columns) != c.z || z.hasSign || z.right.node != x {
			t.Errorf("P12: z of %d: %s", c.kind, text(z.columns))
		}
		// If l is 0 z is x, and F tells what R does.
		f = settled(c.kind, x, pair(0, 4))
		nest = f.right.node
		if text(f.columns) != "(1, 0)(0, 1)(0, 0)(0, 0)" || f.left.node != nil {
			t.Errorf("P12: F of %d from 0 on: %s", c.kind, text(f.columns))
		}
		if c.kind == tree.Exp {
			nest = nest.right.node
		}
		if nest.left.node != x || text(nest.columns) != c.beyond {
			t.Errorf("P12: nest 0 of %d from 0 on: %s", c.kind, text(nest.columns))
		}
	}
}

// P12: the nests, their numbers and what they read of.
func TestP12Nests(t *testing.T) {
	z := made(planned(t, "pi"))
	for _, c := range []struct {
		kind    tree.Kind
		squared bool
		want    [5][2]int
	}{
		{tree.Exp, true, [5][2]int{{1, 2}, {1, 6}, {1, 10}, {1, 14}, {1, 18}}},
		{tree.Ln1p, false, [5][2]int{{1, 1}, {1, 2}, {1, 3}, {4, 4}, {4, 5}}},
		{tree.Atan, true, [5][2]int{{1, 1}, {1, 3}, {4, 5}, {9, 7}, {16, 9}}},
	} {
		n := rest(c.kind, z)
		if c.kind == tree.Exp {
			n = n.right.node
		}
		all := n.nests
		for k, want := range c.want {
			nest := all.nest(k)
			if text(nest.columns) != text(four(0, 0, want[0], 0, 0, 1, 0, want[1])) {
				t.Errorf("P12: nest %d of %d: %s", k, c.kind, text(nest.columns))
			}
			left := nest.left.node
			if k == 0 || !c.squared {
				if left != z {
					t.Errorf("P12: nest %d of %d does not read of z", k, c.kind)
				}
				continue
			}
			if left != all.further || left.left.node != z || left.right.node != z || text(left.columns) != "(1, 0)(0, 0)(0, 0)(0, 1)" {
				t.Errorf("P12: nest %d of %d does not read of the one z * z", k, c.kind)
			}
		}
	}
}

// P12: a nest's right argument is the next one, made when it is wanted.
func TestP12NextNest(t *testing.T) {
	for _, kind := range []tree.Kind{tree.Ln1p, tree.Atan, tree.Sqrt} {
		n := settled(kind, made(planned(t, "cf[1; 7]")), pair(0, 1))
		if kind == tree.Sqrt {
			n = settled(kind, made(planned(t, "cf[1; 7]")), pair(1, 1))
		} else {
			n = n.right.node
		}
		if n.place != 0 || n.right.node != nil || n.right.digits() != 0 || n.right.wantsSign() {
			t.Errorf("P12: the nest of %d: place %d", kind, n.place)
		}
		n.symbol(12, &fuel{left: 3000})
		next := n.right.node
		if next == nil || next.place != 1 || next.nests != n.nests || next.left.node != n.nests.further {
			t.Errorf("P12: no next nest of %d", kind)
		}
	}
}

// P12: F gives nothing till enough is known, and a node without a sign stands
// between it and what has one.
func TestP12Function(t *testing.T) {
	f := made(planned(t, "sqrt(pi)"))
	if f.next() != matrix.None || f.hasSign || f.right.node.constant == nil {
		t.Errorf("P12: the node of sqrt(pi): %v", f)
	}
	// Any other node would give a digit here.
	f.columns = columns{pair(6, 5), pair(6, 5)}
	if got := f.next(); got != matrix.None {
		t.Errorf("P12: F gives %c", got.Letter())
	}
	for _, s := range []string{"atan(pi - e)", "exp(-pi)", "ln1p(pi*-1)", "sqrt(-pi)"} {
		f = made(planned(t, s))
		between := f.right.node
		if f.hasSign || between.hasSign || text(between.columns) != "(1, 0)(0, 1)(0, 0)(0, 0)" || !between.right.node.hasSign {
			t.Errorf("P12: what stands between in %s: %v", s, between)
		}
	}
}

// P10: in a nest eight times LEFT counts.
func TestP10Nests(t *testing.T) {
	for _, c := range []struct {
		columns columns
		times   int
		want    int
	}{
		// RIGHT is 2, LEFT is 1/4, a little less, a little more.
		{four(1, 0, 0, 1, 7, 1, 1, 7), 8, 0},
		{four(1, 0, 0, 1, 15, 2, 2, 15), 8, -1},
		{four(1, 0, 0, 1, 13, 2, 2, 13), 8, 1},
		{four(1, 0, 0, 1, 7, 1, 1, 7), 1, -1},
	} {
		if got := compareWidths(c.columns, c.times); got != c.want {
			t.Errorf("P10: the widths of %s, the left one %d times: %d", text(c.columns), c.times, got)
		}
	}
	n := &node{columns: four(1, 0, 0, 1, 13, 2, 2, 13), left: argument{&node{}, 9}, right: argument{&node{}, 0}}
	if n.readsLeft() {
		t.Errorf("P10: no nest, but its left width counts more")
	}
	n.nests = &nests{}
	if !n.readsLeft() {
		t.Errorf("P10: a nest, but its left width counts no more")
	}
}
