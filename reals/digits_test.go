package reals_test

import (
	"math/big"
	"strings"
	"testing"

	"reals/api"
	"reals/reals"
	"reals/tree"
)

func read(t *testing.T, s string) *reals.Expr {
	t.Helper()
	x, err, _ := reals.Read(s)
	if x == nil || err != api.OK {
		t.Fatalf("Read(%q) = %d", s, err)
	}
	return x
}

// refused checks that both requests are refused with an error and nothing else.
func refused(t *testing.T, s string, k, fuel int, want api.Errno) {
	t.Helper()
	x := read(t, s)
	if got, err := x.Digits(k, fuel); got != "" || err != want {
		t.Errorf("Digits of %q: (%d, %d) = %q, %d, want none, %d", s, k, fuel, got, err, want)
	}
	if a, b, err := x.Encloses(k, fuel); a != "" || b != "" || err != want {
		t.Errorf("Encloses of %q: (%d, %d) = %q, %q, %d, want none, %d", s, k, fuel, a, b, err, want)
	}
}

// The document's examples, of which each takes just so many steps.
func TestP14Examples(t *testing.T) {
	for _, c := range []struct {
		s                 string
		k                 int
		digits, low, high string
		steps             int
	}{
		{"0", 6, "+------", "0/1", "1/63", 6},
		{"-1", 10, "--+++++++++", "-511/513", "-1/1", 11},
		{"7/2", 14, "+++---+++---+++", "12743/3641", "1593/455", 14},
		{"pi", 14, "+++----+---+000", "24855/7913", "24857/7911", 21},
		{"cf[1; 1]", 6, "++-0-++", "39/25", "5/3", 11},
		{"-pi", 3, "-++-", "-3/1", "-7/1", 12},
		{"pi - e", 6, "+-+--+0", "37/91", "39/89", 61},
		{"pi*e", 10, "+++0+-+-00+", "229/27", "917/107", 64},
		{"e/pi - 1", 14, "o00-000-0-000+-", "-69/512", "-1103/8192", 166},
		{"1/(pi - 3)", 10, "+++000000+0", "1793/255", "1795/253", 139},
	} {
		x := read(t, c.s)
		checkTold(t, x, c.s, c.k, c.steps, c.digits)
		if a, b, err := x.Encloses(c.k, 3000); a != c.low || b != c.high || err != api.OK {
			t.Errorf("Encloses of %q = %q, %q, %d, want %q, %q", c.s, a, b, err, c.low, c.high)
		}
		for fuel := 0; fuel < c.steps; fuel++ {
			refused(t, c.s, c.k, fuel, api.ErrFuel)
		}
	}
}

// P14: all four signs, and what they alone tell.
func TestP14Signs(t *testing.T) {
	for _, c := range []struct{ s, sign, low, high string }{
		{"1", "+", "0/1", "1/0"},
		{"pi", "+", "0/1", "1/0"},
		{"pi - 1", "+", "0/1", "1/0"},
		{"-1", "-", "0/1", "1/0"},
		{"-pi", "-", "0/1", "1/0"},
		{"e - pi", "-", "0/1", "1/0"},
		{"pi - pi", "o", "-1/1", "1/1"},
		{"1/(pi - pi)", "w", "1/1", "-1/1"},
		{"-1/(pi - 22/7)", "w", "1/1", "-1/1"},
	} {
		x := read(t, c.s)
		if got, err := x.Digits(0, 3000); got != c.sign || err != api.OK {
			t.Errorf("P14: the sign of %q is %q, %d, want %q", c.s, got, err, c.sign)
		}
		if a, b, err := x.Encloses(0, 3000); a != c.low || b != c.high || err != api.OK {
			t.Errorf("P14: Encloses of %q = %q, %q, %d", c.s, a, b, err)
		}
	}
}

// P14: the sign that a number without one is written with takes no step.
func TestP14NoStepForNoSign(t *testing.T) {
	for _, s := range []string{"0", "355/113", "pi", "e", "cf[0; 2, 3]", "pi + e", "2*(3*(4*pi))", "0/pi"} {
		if got, err := read(t, s).Digits(0, 0); got != "+" || err != api.OK {
			t.Errorf("P14: Digits of %q = %q, %d", s, got, err)
		}
	}
	for _, s := range []string{"-1", "-pi", "pi - e", "1 + (2 - pi)", "pi*-1"} {
		refused(t, s, 0, 0, api.ErrFuel)
	}
}

// P7: fractions take a step a digit, however they were written.
func TestP7WorkedOut(t *testing.T) {
	for _, c := range []struct{ s, same string }{
		{"1/2 + 1/3", "5/6"},
		{"2*3 - 7", "-1"},
		{"-(1/2)/(-3)", "1/6"},
		{"0/7 - 0", "0"},
		{"-0", "0"},
		{"exp(0)/2", "1/2"},
		{"sqrt(0) + ln1p(0) + atan(0)", "0"},
		{"exp(atan(1 - 1)) - 3", "-2"},
		{"999999999*999999999/999999999", "999999999"},
	} {
		signed := 0
		if strings.HasPrefix(c.same, "-") {
			signed = 1
		}
		want, err := read(t, c.same).Digits(40, 40+signed)
		if err != api.OK {
			t.Errorf("P7: Digits of %q: %d", c.same, err)
		}
		checkTold(t, read(t, c.s), c.s, 40, 40+signed, want)
	}
}

func TestP7Domain(t *testing.T) {
	for _, s := range []string{"1/0", "pi/(1 - 1)", "1 + 2/0", "(1/0)*0", "-(e/(2 - 4/2))", "sqrt(-1)", "exp(-1)", "ln1p(-1)", "atan(1 - 2)", "sqrt(pi/0)", "sqrt(pi) + 1/0", "sqrt(pi)/exp(1)/ln1p(0)"} {
		refused(t, s, 0, 0, api.ErrDomain)
		refused(t, s, 60, 3000, api.ErrDomain)
		refused(t, s, 61, 3000, api.ErrArg)
		refused(t, s, 60, -1, api.ErrArg)
	}
	// What is 0 without being a fraction is not told so.
	refused(t, "(pi - pi)/(pi - pi)", 0, 3000, api.ErrFuel)
	refused(t, "(0*pi)/(0*pi)", 1, 3000, api.ErrFuel)
	if got, err := read(t, "1/(0*pi)").Digits(5, 3000); got != "++++++" || err != api.OK {
		t.Errorf("P7: Digits of 1/(0*pi) = %q, %d", got, err)
	}
}

func TestArguments(t *testing.T) {
	least := -1 << 63
	for _, s := range []string{"1", "pi", "-pi", "pi - pi"} {
		for _, c := range [][2]int{{-1, 100}, {61, 100}, {3, -1}, {3, 3001}, {least, 0}, {0, least}, {-(least + 1), 3000}, {0, -(least + 1)}, {-1, -1}, {61, 3001}} {
			refused(t, s, c[0], c[1], api.ErrArg)
		}
		if got, err := read(t, s).Digits(60, 3000); len(got) != 61 || err != api.OK {
			t.Errorf("Digits of %q: (60, 3000) = %q, %d", s, got, err)
		}
	}
}

// P2: each request begins anew, whatever was asked ahead of it.
func TestP2Requests(t *testing.T) {
	x := read(t, "pi - e")
	y := read(t, "pi - e")
	want, _ := y.Digits(30, 3000)
	for k := 0; k <= 30; k++ {
		for _, fuel := range []int{0, 61, 3000} {
			x.Digits(60-k, fuel)
			x.Encloses(k, fuel)
		}
		got, err := x.Digits(30, 3000)
		if got != want || err != api.OK {
			t.Errorf("P2: %q, %d, want %q", got, err, want)
		}
		if got, err := x.Digits(k, 3000); got != want[:k+1] || err != api.OK {
			t.Errorf("P2: %d digits: %q, %d", k, got, err)
		}
	}
	if x.Text() != "pi - e" {
		t.Errorf("P2: the text is now %q", x.Text())
	}
}

func TestP1NoExpressionToAsk(t *testing.T) {
	var x *reals.Expr
	for _, y := range []*reals.Expr{x, {}} {
		if got, err := y.Digits(3, 3000); got != "" || err == api.OK {
			t.Errorf("Digits = %q, %d", got, err)
		}
		if a, b, err := y.Encloses(3, 3000); a != "" || b != "" || err == api.OK {
			t.Errorf("Encloses = %q, %q, %d", a, b, err)
		}
	}
}

// The document's examples with functions.
func TestP12Examples(t *testing.T) {
	for _, c := range []struct {
		s                 string
		k                 int
		digits, low, high string
		steps             int
	}{
		{"sqrt(2)", 6, "++--+-+", "37/27", "19/13", 7},
		{"exp(1)", 4, "++000", "23/9", "25/7", 16},
		{"ln1p(1)", 10, "+-++-00+0-0", "837/1211", "839/1209", 15},
		{"atan(5)", 4, "+0+-0", "17/15", "19/13", 13},
		{"sqrt(pi)", 6, "++0----", "5/3", "41/23", 40},
		{"exp(pi)", 4, "+++++", "15/1", "1/0", 65},
		{"ln1p(e - 2)", 4, "+0-0-", "5/11", "3/5", 149},
		{"atan(pi)", 6, "+0+-00-", "35/29", "9/7", 85},
		{"exp(ln1p(1))", 4, "++0--", "5/3", "11/5", 99},
	} {
		x := read(t, c.s)
		checkTold(t, x, c.s, c.k, c.steps, c.digits)
		if a, b, err := x.Encloses(c.k, 3000); a != c.low || b != c.high || err != api.OK {
			t.Errorf("Encloses of %q = %q, %q, %d, want %q, %q", c.s, a, b, err, c.low, c.high)
		}
		for fuel := 0; fuel < c.steps; fuel++ {
			refused(t, c.s, c.k, fuel, api.ErrFuel)
		}
	}
}

// P12: a function's node has no sign, so that the sign of it takes no step.
func TestP12NoSign(t *testing.T) {
	for _, s := range []string{"sqrt(2)", "exp(1)", "ln1p(1/2)", "atan(3)", "sqrt(pi)", "exp(e - pi)", "ln1p(-pi)", "atan(1 - pi)", "exp(1)*sqrt(pi - 7)"} {
		if got, err := read(t, s).Digits(0, 0); got != "+" || err != api.OK {
			t.Errorf("P12: Digits of %q = %q, %d", s, got, err)
		}
	}
}

// P12: of what is below 0, or may be, no digit ever comes.
func TestP12OfNothing(t *testing.T) {
	for _, s := range []string{"sqrt(1 - pi)", "exp(-pi)", "ln1p(e - pi)", "atan(-sqrt(2))", "sqrt(pi - pi)", "exp(e - e)", "ln1p(pi - pi)", "atan(sqrt(4) - 2)", "sqrt(0*pi)", "1 + sqrt(3 - pi)"} {
		for _, fuel := range []int{0, 1, 2, 10, 100, 1000, 2999, 3000} {
			refused(t, s, 1, fuel, api.ErrFuel)
		}
		refused(t, s, 61, 3000, api.ErrArg)
		refused(t, s, 1, 3001, api.ErrArg)
	}
	// What is 0 and tells so is no trouble but to sqrt, nor is infinity to atan.
	for _, c := range []struct{ s, want string }{
		{"exp(0*pi)", "++------"},
		{"ln1p(0*pi)", "+-------"},
		{"atan(0*pi)", "+-------"},
		{"atan(1/(0*pi))", "++-0-+00"},
	} {
		if got, err := read(t, c.s).Digits(7, 3000); got != c.want || err != api.OK {
			t.Errorf("P12: Digits of %q = %q, %d, want %q", c.s, got, err, c.want)
		}
	}
}

// P7, P12: a function of a fraction below 0 is an error wherever it stands.
func TestP12Domain(t *testing.T) {
	for _, s := range []string{"sqrt(-1)", "ln1p(1/2 - 1)", "atan(-1/9)", "exp(0 - 1)", "pi + sqrt(2 - 3)", "exp(pi*ln1p(-1/1000000))", "sqrt(-pi + sqrt(-1))", "sqrt(sqrt(0) - exp(0))"} {
		refused(t, s, 3, 3000, api.ErrDomain)
		refused(t, s, 0, 0, api.ErrDomain)
		refused(t, s, -1, 0, api.ErrArg)
	}
}

// P1: numbers that are as great, or as near to 0, as an expression has room for.
func TestP1GreatFunctions(t *testing.T) {
	great := strings.Repeat("999999999*", 10) + "999999999"
	small := "1/" + strings.Repeat("999999999/", 9) + "999999999"
	for _, name := range []string{"sqrt", "exp", "ln1p", "atan"} {
		for _, of := range []string{great, small, "pi*" + great[10:], "e*(" + small[:len(small)-10] + ")"} {
			x := read(t, name+"("+of+")")
			a, err := x.Digits(5, 400)
			b, again := x.Digits(5, 400)
			if a != b || err != again || err != api.OK && err != api.ErrFuel {
				t.Errorf("P1: Digits of %q = %q, %d, then %q, %d", x.Text(), a, err, b, again)
			}
		}
	}
}

const precision = 700

func float(n int) *big.Float {
	return new(big.Float).SetPrec(precision).SetInt64(int64(n))
}

// arc tells the arc whose tangent is 1/n, by its series.
func arc(n int) *big.Float {
	sum := float(0)
	power := new(big.Float).Quo(float(1), float(n))
	for k := 1; k < 1100; k += 2 {
		term := new(big.Float).Quo(power, float(k))
		if k%4 == 3 {
			term.Neg(term)
		}
		sum.Add(sum, term)
		power.Quo(power, float(n*n))
	}
	return sum
}

// approximateFunction tells a function's value by its series; false, if it is of
// what may be 0 or less, or if it is too great.
func approximateFunction(kind tree.Kind, x *big.Float) (*big.Float, bool) {
	if kind == tree.Exp && x.Sign() == 0 {
		return float(1), true
	}
	if x.Sign() <= 0 || x.MantExp(nil) < -100 || kind == tree.Exp && x.Cmp(float(10000)) > 0 {
		return x, kind != tree.Exp && x.Sign() == 0
	}
	add := func(x, y *big.Float) *big.Float { return new(big.Float).Add(x, y) }
	switch kind {
	case tree.Sqrt:
		return new(big.Float).Sqrt(x), true
	case tree.Exp:
		// exp(x) is exp(x/2^30) squared 30 times.
		small := new(big.Float).SetMantExp(x, -30)
		sum, term := float(0), float(1)
		for k := 1; k < 100; k++ {
			sum = add(sum, term)
			term = new(big.Float).Quo(new(big.Float).Mul(term, small), float(k))
		}
		for k := 0; k < 30; k++ {
			sum = new(big.Float).Mul(sum, sum)
		}
		return sum, true
	case tree.Ln1p:
		// ln(y) is 2^20 times ln of the root of y taken 20 times; and
		// ln(y) is 2 (u + u^3/3 + u^5/5 ..), u being (y - 1)/(y + 1).
		y := add(float(1), x)
		for k := 0; k < 20; k++ {
			y = new(big.Float).Sqrt(y)
		}
		u := new(big.Float).Quo(add(y, float(-1)), add(y, float(1)))
		return new(big.Float).SetMantExp(series(u, false), 21), true
	}
	// atan(x) is twice atan(x/(1 + sqrt(1 + x x))).
	for k := 0; k < 10; k++ {
		root := new(big.Float).Sqrt(add(float(1), new(big.Float).Mul(x, x)))
		x = new(big.Float).Quo(x, add(float(1), root))
	}
	return new(big.Float).SetMantExp(series(x, true), 10), true
}

// series tells u + u^3/3 + u^5/5 .., or with every second term below 0.
func series(u *big.Float, turns bool) *big.Float {
	sum, power := float(0), u
	square := new(big.Float).Mul(u, u)
	for k := 1; k < 300; k += 2 {
		sum = new(big.Float).Add(sum, new(big.Float).Quo(power, float(k)))
		power = new(big.Float).Mul(power, square)
		if turns {
			power.Neg(power)
		}
	}
	return sum
}

// approximate tells a value by ways of its own; false, if something is divided
// by what may be 0.
func approximate(n *tree.Node, pi, e *big.Float) (*big.Float, bool) {
	switch n.Kind {
	case tree.Number:
		return float(n.Value), true
	case tree.Pi:
		return pi, true
	case tree.E:
		return e, true
	case tree.Cf:
		x := float(1)
		for k := 450; k >= 0; k-- {
			term := n.Terms[0]
			if k > 0 {
				term = n.Terms[1+(k-1)%(len(n.Terms)-1)]
			}
			x.Add(new(big.Float).Quo(float(1), x), float(term))
		}
		return x, true
	}
	left, ok := approximate(n.Left, pi, e)
	if n.Kind == tree.Minus || !ok {
		return new(big.Float).Neg(left), ok
	}
	if n.Right == nil {
		return approximateFunction(n.Kind, left)
	}
	right, ok := approximate(n.Right, pi, e)
	switch {
	case !ok:
		return right, false
	case n.Kind == tree.Add:
		return new(big.Float).Add(left, right), true
	case n.Kind == tree.Subtract:
		return new(big.Float).Sub(left, right), true
	case n.Kind == tree.Multiply:
		return new(big.Float).Mul(left, right), true
	}
	if right.Sign() == 0 || right.MantExp(nil) < -300 {
		return right, false
	}
	return new(big.Float).Quo(left, right), true
}

// P8, P14: whatever is told of a value, it lies between the two ends.
func TestP14Sound(t *testing.T) {
	signs := sound(t, &drawn{seed: 11}, 1000)
	for _, sign := range "+-ow" {
		if n := strings.Count(signs, string(sign)); n < 10 {
			t.Errorf("only %d cases of the sign %c", n, sign)
		}
	}
}

// P12: and so does the value of a function.
func TestP12Sound(t *testing.T) {
	signs := sound(t, &drawn{seed: 12, functions: true}, 1500)
	if len(signs) < 500 {
		t.Errorf("only %d cases", len(signs))
	}
}

func constants() (pi, e *big.Float) {
	pi = new(big.Float).Sub(new(big.Float).Mul(float(16), arc(5)), new(big.Float).Mul(float(4), arc(239)))
	e = float(0)
	term := float(1)
	for k := 1; k < 400; k++ {
		e.Add(e, term)
		term.Quo(term, float(k))
	}
	return pi, e
}

// sound tells the signs of the numbers that it saw.
func sound(t *testing.T, d *drawn, cases int) string {
	pi, e := constants()
	signs := ""
	for i := 0; i < cases; i++ {
		s := d.expression(1 + i%3)
		if i%10 == 0 {
			s = "(" + s + ")/(pi - 22/7)"
		}
		root, err, _ := tree.Read(s)
		if err != api.OK {
			continue
		}
		if _, ok := ratio(root); !ok {
			continue
		}
		value, ok := approximate(root, pi, e)
		if !ok {
			continue
		}
		k := d.below(61)
		x := read(t, s)
		a, b, fault := x.Encloses(k, 3000)
		if fault != api.OK {
			continue
		}
		digits, _ := x.Digits(0, 3000)
		signs += digits
		if !between(value, digits[0], a, b) {
			t.Errorf("P14: Encloses of %q: (%d) = %s, %s, but it is %s", s, k, a, b, value.Text('g', 60))
		}
	}
	return signs
}

// between tells whether a value lies between the two ends that Encloses told.
// Only the sign - turns the way from the first to the second round; a way that
// goes down leads through infinity.
func between(value *big.Float, sign byte, first, second string) bool {
	if sign == api.Minus {
		first, second = second, first
	}
	// Far less than the ends of 60 digits are apart.
	tiny := new(big.Float).SetMantExp(float(1), -250)
	above := first == "1/0" || new(big.Float).Add(value, tiny).Cmp(quotient(first)) >= 0
	under := second == "1/0" || new(big.Float).Sub(value, tiny).Cmp(quotient(second)) <= 0
	if first != "1/0" && second != "1/0" && quotient(first).Cmp(quotient(second)) > 0 {
		return above || under
	}
	return above && under
}

func quotient(s string) *big.Float {
	r, _ := new(big.Rat).SetString(s)
	return new(big.Float).SetPrec(precision).SetRat(r)
}
