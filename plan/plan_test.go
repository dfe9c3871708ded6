package plan

import (
	"testing"

	"reals/api"
	"reals/tree"
)

func planned(t *testing.T, s string) (*Part, api.Errno) {
	t.Helper()
	root, err, _ := tree.Read(s)
	if err != api.OK {
		t.Fatalf("Read(%q) = %d", s, err)
	}
	return Of(root)
}

// shape writes a part with brackets round all that is no leaf.
func shape(p *Part) string {
	switch p.Kind {
	case tree.Number:
		return p.Value.Text()
	case tree.Pi:
		return "pi"
	case tree.E:
		return "e"
	case tree.Cf:
		return "cf"
	case tree.Minus:
		return "(-" + shape(p.Left) + ")"
	case tree.Sqrt, tree.Exp, tree.Ln1p, tree.Atan:
		return "f(" + shape(p.Left) + ")"
	}
	return "(" + shape(p.Left) + "?" + shape(p.Right) + ")"
}

func TestP7Fractions(t *testing.T) {
	for _, c := range []struct{ s, want string }{
		{"0", "0/1"},
		{"007", "7/1"},
		{"-3", "-3/1"},
		{"--3", "3/1"},
		{"-0", "0/1"},
		{"4/6", "2/3"},
		{"4/(-6)", "-2/3"},
		{"-4/(-6)", "2/3"},
		{"1/2 + 1/3", "5/6"},
		{"1/2 - 1/3", "1/6"},
		{"1/6 + 1/3", "1/2"},
		{"2/3 * 3/2", "1/1"},
		{"0/7", "0/1"},
		{"1 - 2 - 3", "-4/1"},
		{"2*3 - 7", "-1/1"},
		{"1/(1/(1/5))", "1/5"},
		{"999999999*999999999", "999999998000000001/1"},
		{"1/999999999/999999999", "1/999999998000000001"},
		{"sqrt(0)", "0/1"},
		{"ln1p(0)", "0/1"},
		{"atan(0)", "0/1"},
		{"exp(0)", "1/1"},
		{"exp(-0)", "1/1"},
		{"exp(1 - 1)/4 + atan(0*3)", "1/4"},
		{"exp(sqrt(ln1p(0)))", "1/1"},
	} {
		p, err := planned(t, c.s)
		if err != api.OK || !p.IsFraction() || shape(p) != c.want {
			t.Errorf("P7: %q is %v, %d, want %s", c.s, p, err, c.want)
		}
	}
}

// Only what is a fraction by its own parts is worked out.
func TestP7NoFractions(t *testing.T) {
	for _, c := range []struct{ s, want string }{
		{"pi", "pi"},
		{"pi - pi", "(pi?pi)"},
		{"0*pi", "(0/1?pi)"},
		{"0/pi", "(0/1?pi)"},
		{"pi*(1 - 1)", "(pi?0/1)"},
		{"1 + pi + 2", "((1/1?pi)?2/1)"},
		{"pi + (1 + 2)", "(pi?3/1)"},
		{"1 + 2 + pi", "(3/1?pi)"},
		{"-(1/2)*-e", "(-1/2?(-e))"},
		{"--pi", "(-(-pi))"},
		{"cf[1; 1]*(2/4)", "(cf?1/2)"},
		{"1/(pi - pi)", "(1/1?(pi?pi))"},
		{"sqrt(4)", "f(4/1)"},
		{"sqrt(1/2 + 1/2)", "f(1/1)"},
		{"exp(0*pi)", "f((0/1?pi))"},
		{"exp(0)*sqrt(-pi)", "(1/1?f((-pi)))"},
		{"1/sqrt(2)", "(1/1?f(2/1))"},
		{"-atan(1) - -1", "((-f(1/1))?-1/1)"},
	} {
		p, err := planned(t, c.s)
		if err != api.OK || shape(p) != c.want {
			t.Errorf("P7: %q is %v, %d, want %s", c.s, p, err, c.want)
		}
		if want := p.Kind == tree.Number; p.IsFraction() != want {
			t.Errorf("P7: %q: IsFraction is %v", c.s, !want)
		}
	}
}

func TestP7Domain(t *testing.T) {
	for _, s := range []string{
		"1/0", "0/0", "pi/0", "pi/(1 - 1)", "1 + 2/0", "2/0 + 1", "pi + 2/0", "(1/0)*0", "0*(pi/0)", "-(e/(2 - 4/2))",
		"sqrt(-1)", "exp(-1)", "ln1p(-1/2)", "atan(-1)", "sqrt(1 - 2)", "exp(-(1/999999999))",
		"sqrt(1/0)", "sqrt(pi/0)", "sqrt(pi)/0", "sqrt(pi)/sqrt(0)", "1/atan(0)", "1/ln1p(1 - exp(0))",
		"sqrt(sqrt(-4))", "exp(2)*atan(exp(0) - 2)", "sqrt(pi - 1/0)", "1/(0*1)", "1/(0*0)", "cf[1; 2]/-0",
	} {
		if p, err := planned(t, s); p != nil || err != api.ErrDomain {
			t.Errorf("P7: %q is %v, %d, want ErrDomain", s, p, err)
		}
	}
}

func TestNoTree(t *testing.T) {
	if p, err := Of(nil); p != nil || err == api.OK || p.IsFraction() {
		t.Errorf("Of(nil) = %v, %d", p, err)
	}
	broken := &tree.Node{Kind: tree.Add, Left: &tree.Node{Kind: tree.Pi}}
	if p, err := Of(broken); p != nil || err == api.OK {
		t.Errorf("Of a tree that lacks a side = %v, %d", p, err)
	}
}

// The terms of a cf are the part's own.
func TestTermsAreCopied(t *testing.T) {
	root, _, _ := tree.Read("cf[1; 2, 3]")
	p, _ := Of(root)
	p.Terms[1] = 99
	if root.Text() != "cf[1; 2, 3]" {
		t.Errorf("the tree is now %s", root.Text())
	}
}
