package reals_test

import (
	"math/big"
	"strings"
	"testing"

	"reals/api"
	"reals/reals"
	"reals/tree"
)

// decimals checks an answer of Decimal, and that it takes just so many steps.
func decimals(t *testing.T, s string, n int, want string, steps int) {
	t.Helper()
	x := read(t, s)
	for _, fuel := range []int{steps, steps + 1, 3000} {
		if got, err := x.Decimal(n, fuel); got != want || err != api.OK {
			t.Errorf("P15: Decimal of %q: (%d, %d) = %q, %d, want %q", s, n, fuel, got, err, want)
		}
	}
	if got, err := x.Decimal(n, steps-1); steps > 0 && (got != "" || err != api.ErrFuel) {
		t.Errorf("P13: Decimal of %q: (%d, %d) = %q, %d", s, n, steps-1, got, err)
	}
}

// termsAre checks an answer of Terms, and that it takes just so many steps.
func termsAre(t *testing.T, s string, k int, want string, steps int) {
	t.Helper()
	x := read(t, s)
	for _, fuel := range []int{steps, steps + 1, 3000} {
		if got, err := x.Terms(k, fuel); strings.Join(got, " ") != want || err != api.OK {
			t.Errorf("P16: Terms of %q: (%d, %d) = %q, %d, want %q", s, k, fuel, got, err, want)
		}
	}
	if got, err := x.Terms(k, steps-1); steps > 0 && (got != nil || err != api.ErrFuel) {
		t.Errorf("P13: Terms of %q: (%d, %d) = %q, %d", s, k, steps-1, got, err)
	}
}

// comparedAre checks an answer of Compare, and that it takes just so many steps.
func comparedAre(t *testing.T, s, u string, bits int, want int, steps int) {
	t.Helper()
	x, y := read(t, s), read(t, u)
	for _, fuel := range []int{steps, steps + 1, 3000} {
		if got, err := reals.Compare(x, y, bits, fuel); got != want || err != api.OK {
			t.Errorf("P17: Compare of %q and %q: (%d, %d) = %d, %d, want %d", s, u, bits, fuel, got, err, want)
		}
	}
	if got, err := reals.Compare(x, y, bits, steps-1); steps > 0 && (got != 0 || err != api.ErrFuel) {
		t.Errorf("P13: Compare of %q and %q: (%d, %d) = %d, %d", s, u, bits, steps-1, got, err)
	}
}

// denied checks that Decimal, Terms and Compare (with something else on either
// side) are refused with an error and nothing else.
func denied(t *testing.T, s string, asked, fuel int, want api.Errno) {
	t.Helper()
	x := read(t, s)
	if got, err := x.Decimal(asked, fuel); got != "" || err != want {
		t.Errorf("Decimal of %q: (%d, %d) = %q, %d, want none, %d", s, asked, fuel, got, err, want)
	}
	if got, err := x.Terms(asked, fuel); got != nil || err != want {
		t.Errorf("Terms of %q: (%d, %d) = %q, %d, want none, %d", s, asked, fuel, got, err, want)
	}
	for _, u := range []string{"1", "pi", "-e", "1/0"} {
		y := read(t, u)
		expected := want
		if u == "1/0" && want != api.ErrArg {
			expected = api.ErrDomain
		}
		if got, err := reals.Compare(x, y, asked, fuel); got != 0 || err != expected {
			t.Errorf("Compare of %q and %q: (%d, %d) = %d, %d, want 0, %d", s, u, asked, fuel, got, err, expected)
		}
		if got, err := reals.Compare(y, x, asked, fuel); got != 0 || err != expected {
			t.Errorf("Compare of %q and %q: (%d, %d) = %d, %d, want 0, %d", u, s, asked, fuel, got, err, expected)
		}
	}
}

// The document's examples, of which each takes just so many steps.
func TestP15P16Examples(t *testing.T) {
	for _, c := range []struct {
		s       string
		n       int
		decimal string
		steps   int
		k       int
		terms   string
		more    int
	}{
		{"3", 2, "299", 10, 6, "3", 0},
		{"-7/2", 1, "-35", 8, 5, "-4 2", 0},
		{"pi", 9, "3141592654", 49, 1, "3", 8},
		{"pi - 22/7", 1, "0", 46, 6, "-1 1 789 1 4 1", 197},
		{"sqrt(1000)", 6, "31622777", 35, 1, "31", 14},
		{"exp(pi)", 2, "2314", 292, 6, "23 7 9 3 1 1", 702},
		{"atan(pi)", 6, "1262627", 374, 3, "1 3 1", 117},
	} {
		decimals(t, c.s, c.n, c.decimal, c.steps)
		termsAre(t, c.s, c.k, c.terms, c.more)
	}
}

func TestP17Examples(t *testing.T) {
	for _, fuel := range []int{0, 1, 3000} {
		if got, err := reals.Compare(read(t, "2/4"), read(t, "1/2"), 60, fuel); got != 0 || err != api.OK {
			t.Errorf("P17: 2/4 and 1/2 with the fuel %d: %d, %d", fuel, got, err)
		}
	}
	comparedAre(t, "pi", "22/7", 2, api.Near, 35)
	comparedAre(t, "pi", "22/7", 8, api.Near, 67)
	comparedAre(t, "pi", "22/7", 20, api.Less, 83)
	comparedAre(t, "sqrt(2)*sqrt(2)", "2", 20, api.Near, 231)
	comparedAre(t, "exp(pi)", "pi*e*e", 8, api.Less, 474)
}

// P15: a fraction is told by its symbols like anything else.
func TestP15Fractions(t *testing.T) {
	decimals(t, "0", 0, "1", 1)
	decimals(t, "1", 0, "1", 1)
	decimals(t, "-1", 0, "0", 2)
	decimals(t, "-1", 6, "-999999", 22)
	decimals(t, "1/3", 3, "333", 11)
	denied(t, "-(1/2 - pi)", 60, 0, api.ErrFuel)
	if got, err := read(t, "22/7").Decimal(60, 3000); got != "3142857142857142857142857142857142857142857142857142857142858" || err != api.OK {
		t.Errorf("P15: 22/7 = %s, %d", got, err)
	}
	great := "999999999" + strings.Repeat("*999999999", 9)
	want := new(big.Int).Exp(big.NewInt(999999999), big.NewInt(10), nil)
	got, err := read(t, great).Decimal(0, 3000)
	m, _ := new(big.Int).SetString(got, 10)
	if err != api.OK || m == nil || m.Sub(m, want).CmpAbs(big.NewInt(1)) > 0 {
		t.Errorf("P15: %s = %s, %d", great, got, err)
	}
}

// P15: of a number that may be infinity, or of none at all, no decimal is told.
func TestP15Unsound(t *testing.T) {
	for _, s := range []string{"1/(pi - pi)", "1/(0*pi)", "-1/(0*e)", "(pi - pi)/(pi - pi)", "sqrt(1 - pi)"} {
		for _, fuel := range []int{0, 1, 10, 100, 3000} {
			if got, err := read(t, s).Decimal(0, fuel); got != "" || err != api.ErrFuel {
				t.Errorf("P15: Decimal of %q: (0, %d) = %q, %d", s, fuel, got, err)
			}
		}
	}
	// The sign w leads round infinity.
	for _, c := range []struct{ s, want string }{
		{"1/(pi - 22/7)", "-791"},
		{"1/(22/7 - pi)", "791"},
	} {
		x := read(t, c.s)
		if sign, err := x.Digits(0, 3000); sign != "w" || err != api.OK {
			t.Errorf("P14: the sign of %q is %q, %d", c.s, sign, err)
		}
		if got, err := x.Decimal(0, 3000); got != c.want || err != api.OK {
			t.Errorf("P15: Decimal of %q = %q, %d, want %q", c.s, got, err, c.want)
		}
	}
}

// P16: a fraction's terms take no steps, and there may be fewer than are wanted.
func TestP16Fractions(t *testing.T) {
	for _, c := range []struct {
		s    string
		k    int
		want string
	}{
		{"0", 60, "0"},
		{"0", 0, ""},
		{"5", 1, "5"},
		{"-5", 60, "-5"},
		{"-1/3", 9, "-1 1 2"},
		{"22/7", 60, "3 7"},
		{"1/2 + 1/3", 60, "0 1 5"},
		{"exp(0)/7", 60, "0 7"},
		{"13/8", 60, "1 1 1 1 2"},
		{"13/8", 4, "1 1 1 1"},
		{"13/8", 0, ""},
		{"999999999*999999999", 3, "999999998000000001"},
		{"-1/(999999999*999999999)", 9, "-1 1 999999998000000000"},
	} {
		termsAre(t, c.s, c.k, c.want, 0)
	}
}

// P16: no term takes no step, whatever the value; but it is a list.
func TestP16NoTerms(t *testing.T) {
	for _, s := range []string{"pi", "-pi", "1/(pi - pi)", "sqrt(1 - pi)", "7", "0"} {
		if got, err := read(t, s).Terms(0, 0); got == nil || len(got) != 0 || err != api.OK {
			t.Errorf("P16: no term of %q: %v, %d", s, got, err)
		}
	}
}

// P16: what is a whole number, or has an end, without being a fraction never
// tells so; and what is infinite has no term.
func TestP16Endless(t *testing.T) {
	for _, s := range []string{"pi - pi", "cf[1; 2]*cf[1; 2]", "sqrt(4)", "1/(pi - pi)", "0*pi", "pi/pi", "2*sqrt(9/16)", "1/(0*pi)"} {
		for _, fuel := range []int{0, 100, 3000} {
			if got, err := read(t, s).Terms(5, fuel); got != nil || err != api.ErrFuel {
				t.Errorf("P16: Terms of %q: (5, %d) = %q, %d", s, fuel, got, err)
			}
		}
	}
}

// P16: a cf tells its own terms.
func TestP16Cf(t *testing.T) {
	for _, c := range []struct {
		s    string
		k    int
		want string
	}{
		{"cf[0; 1, 2, 3]", 60, "0" + strings.Repeat(" 1 2 3", 19) + " 1 2"},
		{"cf[1; 1]", 60, "1" + strings.Repeat(" 1", 59)},
		{"cf[999999999; 999999999]", 20, "999999999" + strings.Repeat(" 999999999", 19)},
		{"cf[3; 7, 15, 1, 292, 1, 2, 3, 4]", 10, "3 7 15 1 292 1 2 3 4 7"},
		{"1/cf[0; 4, 5]", 7, "4 5 4 5 4 5 4"},
		{"e", 30, "2 1 2 1 1 4 1 1 6 1 1 8 1 1 10 1 1 12 1 1 14 1 1 16 1 1 18 1 1 20"},
	} {
		if got, err := read(t, c.s).Terms(c.k, 3000); strings.Join(got, " ") != c.want || err != api.OK {
			t.Errorf("P16: Terms of %q = %q, %d, want %q", c.s, got, err, c.want)
		}
	}
}

// P2: the lists are the caller's, with all their spare room.
func TestP2Lists(t *testing.T) {
	for _, s := range []string{"355/113", "pi", "-e", "sqrt(2)"} {
		x := read(t, s)
		first, _ := x.Terms(3, 3000)
		second, _ := x.Terms(3, 3000)
		want := strings.Join(first, " ")
		spare := first[:cap(first)]
		for i := range spare {
			spare[i] = "mine"
		}
		third, err := x.Terms(3, 3000)
		if strings.Join(second, " ") != want || strings.Join(third, " ") != want || err != api.OK {
			t.Errorf("P2: Terms of %q = %q, then %q, %d, want %q", s, second, third, err, want)
		}
		if x.Text() != read(t, s).Text() {
			t.Errorf("P2: the text of %q is %q", s, x.Text())
		}
	}
}

// P2: each request begins anew, also if both sides of Compare are one Expr.
func TestP2Answers(t *testing.T) {
	x, y := read(t, "pi"), read(t, "pi")
	for round := 0; round < 3; round++ {
		for _, pair := range [][2]*reals.Expr{{x, x}, {x, y}, {y, x}} {
			if got, err := reals.Compare(pair[0], pair[1], 8, 71); got != api.Near || err != api.OK {
				t.Errorf("P2: Compare = %d, %d", got, err)
			}
			if got, err := reals.Compare(pair[0], pair[1], 8, 70); got != 0 || err != api.ErrFuel {
				t.Errorf("P2: Compare = %d, %d", got, err)
			}
		}
		x.Digits(round, 100)
		if got, err := x.Decimal(9, 49); got != "3141592654" || err != api.OK {
			t.Errorf("P2: Decimal = %q, %d", got, err)
		}
		if got, err := x.Terms(1, 8); strings.Join(got, " ") != "3" || err != api.OK {
			t.Errorf("P2: Terms = %q, %d", got, err)
		}
	}
}

// P17: fractions, with any bits and any fuel.
func TestP17Fractions(t *testing.T) {
	list := []string{"-3", "-22/7", "-1/1000000", "0", "exp(0) - 1", "1/999999999", "1/999999998", "1/3", "2/6", "355/113", "22/7", "999999999*999999999"}
	for _, s := range list {
		for _, u := range list {
			a, _, _ := tree.Read(s)
			b, _, _ := tree.Read(u)
			left, _ := ratio(a)
			right, _ := ratio(b)
			for _, bits := range []int{0, 60} {
				comparedAre(t, s, u, bits, left.Cmp(right), 0)
			}
		}
	}
}

// P17: the bounds at both ends of what may be asked.
func TestP17Bits(t *testing.T) {
	for _, c := range []struct {
		s, u string
		bits int
		want int
	}{
		{"pi", "pi", 60, api.Near},
		{"pi", "pi", 0, api.Near},
		{"pi", "3", 60, api.Greater},
		{"3", "pi", 60, api.Less},
		{"pi", "22/7", 0, api.Near},
		{"pi", "355/113", 60, api.Less},
		{"-pi", "pi", 0, api.Less},
		{"pi", "-1", 0, api.Greater},
		{"e", "exp(1)", 60, api.Near},
		{"4*atan(1)", "pi", 60, api.Near},
		{"pi", "pi + 1/1000000/1000000/1000000", 60, api.Less},
		{"pi", "pi + 1/1000000/1000000/1000000", 59, api.Near},
	} {
		if got, err := reals.Compare(read(t, c.s), read(t, c.u), c.bits, 3000); got != c.want || err != api.OK {
			t.Errorf("P17: Compare of %q and %q with %d bits = %d, %d, want %d", c.s, c.u, c.bits, got, err, c.want)
		}
	}
	if got, err := reals.Compare(read(t, "1/(pi - pi)"), read(t, "1"), 0, 3000); got != 0 || err != api.ErrFuel {
		t.Errorf("P17: of infinity: %d, %d", got, err)
	}
}

func TestAnswersArguments(t *testing.T) {
	least := -1 << 63
	for _, s := range []string{"1", "pi", "-pi", "pi - pi", "1/0", "sqrt(-1)"} {
		for _, c := range [][2]int{{-1, 100}, {61, 100}, {3, -1}, {3, 3001}, {least, 0}, {0, least}, {-(least + 1), 3000}, {0, -(least + 1)}, {-1, -1}, {61, 3001}} {
			denied(t, s, c[0], c[1], api.ErrArg)
		}
	}
	for _, s := range []string{"1/0", "pi/(1 - 1)", "1 + 2/0", "sqrt(-1)", "exp(1/2 - 1)", "sqrt(pi/0)", "pi + atan(-3)"} {
		denied(t, s, 0, 0, api.ErrDomain)
		denied(t, s, 60, 3000, api.ErrDomain)
	}
	if got, err := reals.Compare(read(t, "1/0"), read(t, "1/0"), 0, 0); got != 0 || err != api.ErrDomain {
		t.Errorf("Compare of 1/0 and 1/0 = %d, %d", got, err)
	}
	if got, err := read(t, "pi").Decimal(60, 3000); got != "3141592653589793238462643383279502884197169399375105820974944" || err != api.OK {
		t.Errorf("Decimal of pi: (60, 3000) = %q, %d", got, err)
	}
}

func TestP1NoExpressionToAnswer(t *testing.T) {
	var none *reals.Expr
	x := read(t, "pi")
	for _, y := range []*reals.Expr{none, {}} {
		if got, err := y.Decimal(3, 3000); got != "" || err == api.OK {
			t.Errorf("Decimal = %q, %d", got, err)
		}
		if got, err := y.Terms(3, 3000); got != nil || err == api.OK {
			t.Errorf("Terms = %q, %d", got, err)
		}
		if got, err := reals.Compare(x, y, 3, 3000); got != 0 || err == api.OK {
			t.Errorf("Compare = %d, %d", got, err)
		}
		if got, err := reals.Compare(y, x, 3, 3000); got != 0 || err == api.OK {
			t.Errorf("Compare = %d, %d", got, err)
		}
	}
}
