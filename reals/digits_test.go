package reals_test

import (
	"math/big"
	"strings"
	"testing"

	"reals/api"
	"reals/reals"
	"reals/tree"
)

func read(t *testing.T, s string) *reals.Expr {
	t.Helper()
	x, err, _ := reals.Read(s)
	if x == nil || err != api.OK {
		t.Fatalf("Read(%q) = %d", s, err)
	}
	return x
}

// refused checks that both requests are refused with an error and nothing else.
func refused(t *testing.T, s string, k, fuel int, want api.Errno) {
	t.Helper()
	x := read(t, s)
	if got, err := x.Digits(k, fuel); got != "" || err != want {
		t.Errorf("Digits of %q: (%d, %d) = %q, %d, want none, %d", s, k, fuel, got, err, want)
	}
	if a, b, err := x.Encloses(k, fuel); a != "" || b != "" || err != want {
		t.Errorf("Encloses of %q: (%d, %d) = %q, %q, %d, want none, %d", s, k, fuel, a, b, err, want)
	}
}

// The document's examples, of which each takes just so many steps.
func TestP14Examples(t *testing.T) {
	for _, c := range []struct {
		s                 string
		k                 int
		digits, low, high string
		steps             int
	}{
		{"0", 6, "+------", "0/1", "1/63", 6},
		{"-1", 10, "--+++++++++", "-511/513", "-1/1", 11},
		{"7/2", 14, "+++---+++---+++", "12743/3641", "1593/455", 14},
		{"pi", 14, "+++----+---+000", "24855/7913", "24857/7911", 21},
		{"cf[1; 1]", 6, "++-0-++", "39/25", "5/3", 11},
		{"-pi", 3, "-++-", "-3/1", "-7/1", 12},
		{"pi - e", 6, "+-+--+0", "37/91", "39/89", 61},
		{"pi*e", 10, "+++0+-+-00+", "229/27", "917/107", 64},
		{"e/pi - 1", 14, "o00-000-0-000+-", "-69/512", "-1103/8192", 166},
		{"1/(pi - 3)", 10, "+++000000+0", "1793/255", "1795/253", 139},
	} {
		x := read(t, c.s)
		checkTold(t, x, c.s, c.k, c.steps, c.digits)
		if a, b, err := x.Encloses(c.k, 3000); a != c.low || b != c.high || err != api.OK {
			t.Errorf("Encloses of %q = %q, %q, %d, want %q, %q", c.s, a, b, err, c.low, c.high)
		}
		for fuel := 0; fuel < c.steps; fuel++ {
			refused(t, c.s, c.k, fuel, api.ErrFuel)
		}
	}
}

// P14: all four signs, and what they alone tell.
func TestP14Signs(t *testing.T) {
	for _, c := range []struct{ s, sign, low, high string }{
		{"1", "+", "0/1", "1/0"},
		{"pi", "+", "0/1", "1/0"},
		{"pi - 1", "+", "0/1", "1/0"},
		{"-1", "-", "0/1", "1/0"},
		{"-pi", "-", "0/1", "1/0"},
		{"e - pi", "-", "0/1", "1/0"},
		{"pi - pi", "o", "-1/1", "1/1"},
		{"1/(pi - pi)", "w", "1/1", "-1/1"},
		{"-1/(pi - 22/7)", "w", "1/1", "-1/1"},
	} {
		x := read(t, c.s)
		if got, err := x.Digits(0, 3000); got != c.sign || err != api.OK {
			t.Errorf("P14: the sign of %q is %q, %d, want %q", c.s, got, err, c.sign)
		}
		if a, b, err := x.Encloses(0, 3000); a != c.low || b != c.high || err != api.OK {
			t.Errorf("P14: Encloses of %q = %q, %q, %d", c.s, a, b, err)
		}
	}
}

// P14: the sign that a number without one is written with takes no step.
func TestP14NoStepForNoSign(t *testing.T) {
	for _, s := range []string{"0", "355/113", "pi", "e", "cf[0; 2, 3]", "pi + e", "2*(3*(4*pi))", "0/pi"} {
		if got, err := read(t, s).Digits(0, 0); got != "+" || err != api.OK {
			t.Errorf("P14: Digits of %q = %q, %d", s, got, err)
		}
	}
	for _, s := range []string{"-1", "-pi", "pi - e", "1 + (2 - pi)", "pi*-1"} {
		refused(t, s, 0, 0, api.ErrFuel)
	}
}

// P7: fractions take a step a digit, however they were written.
func TestP7WorkedOut(t *testing.T) {
	for _, c := range []struct{ s, same string }{
		{"1/2 + 1/3", "5/6"},
		{"2*3 - 7", "-1"},
		{"-(1/2)/(-3)", "1/6"},
		{"0/7 - 0", "0"},
		{"-0", "0"},
		{"exp(0)/2", "1/2"},
		{"sqrt(0) + ln1p(0) + atan(0)", "0"},
		{"exp(atan(1 - 1)) - 3", "-2"},
		{"999999999*999999999/999999999", "999999999"},
	} {
		signed := 0
		if strings.HasPrefix(c.same, "-") {
			signed = 1
		}
		want, err := read(t, c.same).Digits(40, 40+signed)
		if err != api.OK {
			t.Errorf("P7: Digits of %q: %d", c.same, err)
		}
		checkTold(t, read(t, c.s), c.s, 40, 40+signed, want)
	}
}

func TestP7Domain(t *testing.T) {
	for _, s := range []string{"1/0", "pi/(1 - 1)", "1 + 2/0", "(1/0)*0", "-(e/(2 - 4/2))", "sqrt(-1)", "exp(-1)", "ln1p(-1)", "atan(1 - 2)", "sqrt(pi/0)", "sqrt(pi) + 1/0", "sqrt(pi)/exp(1)/ln1p(0)"} {
		refused(t, s, 0, 0, api.ErrDomain)
		refused(t, s, 60, 3000, api.ErrDomain)
		refused(t, s, 61, 3000, api.ErrArg)
		refused(t, s, 60, -1, api.ErrArg)
	}
	// What is 0 without being a fraction is not told so.
	refused(t, "(pi - pi)/(pi - pi)", 0, 3000, api.ErrFuel)
	refused(t, "(0*pi)/(0*pi)", 1, 3000, api.ErrFuel)
	if got, err := read(t, "1/(0*pi)").Digits(5, 3000); got != "++++++" || err != api.OK {
		t.Errorf("P7: Digits of 1/(0*pi) = %q, %d", got, err)
	}
}

func TestArguments(t *testing.T) {
	least := -1 << 63
	for _, s := range []string{"1", "pi", "-pi", "pi - pi"} {
		for _, c := range [][2]int{{-1, 100}, {61, 100}, {3, -1}, {3, 3001}, {least, 0}, {0, least}, {-(least + 1), 3000}, {0, -(least + 1)}, {-1, -1}, {61, 3001}} {
			refused(t, s, c[0], c[1], api.ErrArg)
		}
		if got, err := read(t, s).Digits(60, 3000); len(got) != 61 || err != api.OK {
			t.Errorf("Digits of %q: (60, 3000) = %q, %d", s, got, err)
		}
	}
}

// P2: each request begins anew, whatever was asked ahead of it.
func TestP2Requests(t *testing.T) {
	x := read(t, "pi - e")
	y := read(t, "pi - e")
	want, _ := y.Digits(30, 3000)
	for k := 0; k <= 30; k++ {
		for _, fuel := range []int{0, 61, 3000} {
			x.Digits(60-k, fuel)
			x.Encloses(k, fuel)
		}
		got, err := x.Digits(30, 3000)
		if got != want || err != api.OK {
			t.Errorf("P2: %q, %d, want %q", got, err, want)
		}
		if got, err := x.Digits(k, 3000); got != want[:k+1] || err != api.OK {
			t.Errorf("P2: %d digits: %q, %d", k, got, err)
		}
	}
	if x.Text() != "pi - e" {
		t.Errorf("P2: the text is now %q", x.Text())
	}
}

func TestP1NoExpressionToAsk(t *testing.T) {
	var x *reals.Expr
	for _, y := range []*reals.Expr{x, {}} {
		if got, err := y.Digits(3, 3000); got != "" || err == api.OK {
			t.Errorf("Digits = %q, %d", got, err)
		}
		if a, b, err := y.Encloses(3, 3000); a != "" || b != "" || err == api.OK {
			t.Errorf("Encloses = %q, %q, %d", a, b, err)
		}
	}
}

// There are no nodes of functions yet: where one is left nothing is told, and
// the errors that go ahead of that are.
func TestFunctionsTellNothing(t *testing.T) {
	for _, s := range []string{"sqrt(2)", "1 + exp(1)", "atan(pi)*e", "-ln1p(2)", "sqrt(exp(2) - pi)", "pi/(1 - sqrt(4))"} {
		refused(t, s, 6, 3000, api.OK)
		refused(t, s, 0, 0, api.OK)
		refused(t, s, -1, 3000, api.ErrArg)
		refused(t, s+"/0", 6, 3000, api.ErrDomain)
	}
}

const precision = 700

func float(n int) *big.Float {
	return new(big.Float).SetPrec(precision).SetInt64(int64(n))
}

// arc tells the arc whose tangent is 1/n, by its series.
func arc(n int) *big.Float {
	sum := float(0)
	power := new(big.Float).Quo(float(1), float(n))
	for k := 1; k < 1100; k += 2 {
		term := new(big.Float).Quo(power, float(k))
		if k%4 == 3 {
			term.Neg(term)
		}
		sum.Add(sum, term)
		power.Quo(power, float(n*n))
	}
	return sum
}

// approximate tells a value by ways of its own; false, if something is divided
// by what may be 0.
func approximate(n *tree.Node, pi, e *big.Float) (*big.Float, bool) {
	switch n.Kind {
	case tree.Number:
		return float(n.Value), true
	case tree.Exp:
		return float(1), true // exp(0) is the only function here
	case tree.Pi:
		return pi, true
	case tree.E:
		return e, true
	case tree.Cf:
		x := float(1)
		for k := 450; k >= 0; k-- {
			term := n.Terms[0]
			if k > 0 {
				term = n.Terms[1+(k-1)%(len(n.Terms)-1)]
			}
			x.Add(new(big.Float).Quo(float(1), x), float(term))
		}
		return x, true
	}
	left, ok := approximate(n.Left, pi, e)
	if n.Kind == tree.Minus || !ok {
		return new(big.Float).Neg(left), ok
	}
	right, ok := approximate(n.Right, pi, e)
	switch {
	case !ok:
		return right, false
	case n.Kind == tree.Add:
		return new(big.Float).Add(left, right), true
	case n.Kind == tree.Subtract:
		return new(big.Float).Sub(left, right), true
	case n.Kind == tree.Multiply:
		return new(big.Float).Mul(left, right), true
	}
	if right.Sign() == 0 || right.MantExp(nil) < -300 {
		return right, false
	}
	return new(big.Float).Quo(left, right), true
}

// P8, P14: whatever is told of a value, it lies between the two ends.
func TestP14Sound(t *testing.T) {
	pi := new(big.Float).Sub(new(big.Float).Mul(float(16), arc(5)), new(big.Float).Mul(float(4), arc(239)))
	e, term := float(0), float(1)
	for k := 1; k < 400; k++ {
		e.Add(e, term)
		term.Quo(term, float(k))
	}
	d := &drawn{seed: 11}
	signs := ""
	for i := 0; i < 1000; i++ {
		s := d.expression(1 + i%3)
		if i%10 == 0 {
			s = "(" + s + ")/(pi - 22/7)"
		}
		root, err, _ := tree.Read(s)
		if err != api.OK {
			continue
		}
		if _, ok := ratio(root); !ok {
			continue
		}
		value, ok := approximate(root, pi, e)
		if !ok {
			continue
		}
		k := d.below(61)
		x := read(t, s)
		a, b, fault := x.Encloses(k, 3000)
		if fault != api.OK {
			continue
		}
		digits, _ := x.Digits(0, 3000)
		signs += digits
		if !between(value, digits[0], a, b) {
			t.Errorf("P14: Encloses of %q: (%d) = %s, %s, but it is %s", s, k, a, b, value.Text('g', 60))
		}
	}
	for _, sign := range "+-ow" {
		if n := strings.Count(signs, string(sign)); n < 15 {
			t.Errorf("only %d cases of the sign %c", n, sign)
		}
	}
}

// between tells whether a value lies between the two ends that Encloses told.
// Only the sign - turns the way from the first to the second round; a way that
// goes down leads through infinity.
func between(value *big.Float, sign byte, first, second string) bool {
	if sign == api.Minus {
		first, second = second, first
	}
	// Far less than the ends of 60 digits are apart.
	tiny := new(big.Float).SetMantExp(float(1), -250)
	above := first == "1/0" || new(big.Float).Add(value, tiny).Cmp(quotient(first)) >= 0
	under := second == "1/0" || new(big.Float).Sub(value, tiny).Cmp(quotient(second)) <= 0
	if first != "1/0" && second != "1/0" && quotient(first).Cmp(quotient(second)) > 0 {
		return above || under
	}
	return above && under
}

func quotient(s string) *big.Float {
	r, _ := new(big.Rat).SetString(s)
	return new(big.Float).SetPrec(precision).SetRat(r)
}
