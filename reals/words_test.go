package reals_test

import (
	"math/big"
	"strings"
	"testing"

	"reals/api"
	"reals/reals"
	"reals/tree"
)

// Here the document's words on P14 to P17 stand once more, in big.Rat, on the
// signs and digits that the words on nodes tell (told).

// value is a fraction or, if it is nil, infinity.
type value *big.Rat

func valueOf(s string) value {
	if s == "1/0" {
		return nil
	}
	r, _ := new(big.Rat).SetString(s)
	return r
}

// lies tells lo and hi by a sign and digits; false, if that is not sound. Only
// the sign - turns the way from the first end to the second one round; a way
// that goes down leads through infinity.
func lies(digits string) (lo, hi *big.Rat, sound bool) {
	a, b := ends(digits)
	if digits[0] == api.Minus {
		a, b = b, a
	}
	lo, hi = valueOf(a), valueOf(b)
	return lo, hi, lo != nil && hi != nil && lo.Cmp(hi) < 0
}

func floor(r *big.Rat) *big.Int {
	// Of a divisor above 0 Div goes down.
	return new(big.Int).Div(r.Num(), r.Denom())
}

// wordsOfDecimal: the decimal, if the sign and digits do.
func wordsOfDecimal(digits string, n int) (string, bool) {
	lo, hi, sound := lies(digits)
	if !sound {
		return "", false
	}
	ten := new(big.Rat).SetInt(new(big.Int).Exp(big.NewInt(10), big.NewInt(int64(n)), nil))
	low, high := new(big.Rat).Mul(ten, lo), new(big.Rat).Mul(ten, hi)
	half := big.NewRat(1, 2)
	sum := new(big.Rat).Add(low, high)
	m := floor(sum.Add(sum.Mul(sum, half), half))
	below := new(big.Rat).SetInt(new(big.Int).Sub(m, big.NewInt(1)))
	above := new(big.Rat).SetInt(new(big.Int).Add(m, big.NewInt(1)))
	return m.String(), below.Cmp(low) <= 0 && high.Cmp(above) <= 0
}

// beyond tells 1/(x - a) of each of the terms a, one after the other.
func beyond(x value, terms []*big.Int) value {
	for _, a := range terms {
		if x == nil {
			x = new(big.Rat)
			continue
		}
		y := new(big.Rat).Sub(x, new(big.Rat).SetInt(a))
		if y.Sign() == 0 {
			x = nil
			continue
		}
		x = y.Inv(y)
	}
	return x
}

// wordsOfTerm: the term behind some others, if the sign and digits do. What is
// known lies between a term and the next whole number when that is taken, and
// ever after: so infinity can only be an end then.
func wordsOfTerm(digits string, terms []*big.Int) (*big.Int, bool) {
	lo, hi, sound := lies(digits)
	if !sound {
		return nil, false
	}
	a, b := beyond(lo, terms), beyond(hi, terms)
	if a == nil || b == nil {
		return nil, false
	}
	term := floor(a)
	return term, term.Cmp(floor(b)) == 0
}

func wordsOfCompare(digits string, bits int) (int, bool) {
	lo, hi, sound := lies(digits)
	if !sound {
		return 0, false
	}
	bound := new(big.Rat).SetFrac(big.NewInt(1), new(big.Int).Lsh(big.NewInt(1), uint(bits)))
	switch {
	case lo.Sign() > 0:
		return api.Greater, true
	case hi.Sign() < 0:
		return api.Less, true
	}
	return api.Near, lo.Cmp(new(big.Rat).Neg(bound)) >= 0 && hi.Cmp(bound) <= 0
}

// divided: the terms of a fraction.
func divided(r *big.Rat, k int) string {
	list := []string{}
	for x := value(r); x != nil && len(list) < k; {
		a := floor(x)
		list = append(list, a.String())
		x = beyond(x, []*big.Int{a})
	}
	return strings.Join(list, " ")
}

// tally counts what was seen: answers, ErrFuel, ErrDomain.
type tally struct{ answers, dry, domains int }

// eachDrawn calls ask with expressions drawn by a fixed rule, and domain with
// those of them whose fractions cannot be worked out.
func eachDrawn(d *drawn, cases int, domain func(s string), ask func(s string, root *tree.Node)) {
	for i := 0; i < cases; i++ {
		s := d.expression(1 + i%4)
		if i%7 == 0 {
			s = "(" + s + ")/(pi - 22/7)"
		}
		root, err, _ := tree.Read(s)
		if err != api.OK {
			continue
		}
		if _, ok := ratio(root); !ok {
			domain(s)
			continue
		}
		ask(s, root)
	}
}

func (seen *tally) enough(t *testing.T, answers, dry, domains int) {
	t.Helper()
	if seen.answers < answers || seen.dry < dry || seen.domains < domains {
		t.Errorf("only %d answers, %d without fuel, %d domain errors", seen.answers, seen.dry, seen.domains)
	}
}

// P15 (and P13, P14, P7): what the words say, and the least fuel.
func TestP15AgainstTheWords(t *testing.T) {
	const fuel = 350
	for _, d := range []*drawn{{seed: 21}, {seed: 22, functions: true}} {
		seen := &tally{}
		domain := func(s string) {
			seen.domains++
			if got, err := read(t, s).Decimal(3, 0); got != "" || err != api.ErrDomain {
				t.Errorf("P15: Decimal of %q = %q, %d", s, got, err)
			}
		}
		eachDrawn(d, 500, domain, func(s string, root *tree.Node) {
			n := []int{0, 0, 1, 2, 5, 12, 30, 60}[d.below(8)]
			texts, counts := told(root, fuel, fuel)
			for i := range texts {
				if want, ok := wordsOfDecimal(texts[i], n); ok {
					seen.answers++
					decimals(t, s, n, want, counts[i])
					return
				}
			}
			seen.dry++
			if got, err := read(t, s).Decimal(n, fuel); got != "" || err != api.ErrFuel {
				t.Errorf("P15: Decimal of %q: (%d, %d) = %q, %d", s, n, fuel, got, err)
			}
		})
		seen.enough(t, 200, 30, 10)
	}
}

// P16: what the words say, and the least fuel.
func TestP16AgainstTheWords(t *testing.T) {
	const fuel = 350
	for _, d := range []*drawn{{seed: 23}, {seed: 24, functions: true}} {
		seen := &tally{}
		domain := func(s string) {
			seen.domains++
			if got, err := read(t, s).Terms(0, 0); got != nil || err != api.ErrDomain {
				t.Errorf("P16: Terms of %q = %q, %d", s, got, err)
			}
		}
		eachDrawn(d, 500, domain, func(s string, root *tree.Node) {
			k := []int{0, 1, 1, 2, 3, 5, 8, 60}[d.below(8)]
			if r, _ := ratio(root); r != nil {
				termsAre(t, s, k, divided(r, k), 0)
				return
			}
			terms, list, steps := []*big.Int{}, []string{}, 0
			texts, counts := told(root, fuel, fuel)
			for i := 0; i < len(texts) && len(list) < k; {
				term, ok := wordsOfTerm(texts[i], terms)
				if !ok {
					i++
					continue
				}
				terms = append(terms, term)
				list = append(list, term.String())
				steps = counts[i]
			}
			if len(list) == k {
				seen.answers++
				termsAre(t, s, k, strings.Join(list, " "), steps)
				return
			}
			seen.dry++
			if got, err := read(t, s).Terms(k, fuel); got != nil || err != api.ErrFuel {
				t.Errorf("P16: Terms of %q: (%d, %d) = %q, %d", s, k, fuel, got, err)
			}
		})
		seen.enough(t, 150, 50, 10)
	}
}

// P17: what the words say, and the least fuel.
func TestP17AgainstTheWords(t *testing.T) {
	const fuel = 350
	for _, d := range []*drawn{{seed: 25}, {seed: 26, functions: true}} {
		seen := &tally{}
		last, lastRoot := "1", &tree.Node{Kind: tree.Number, Value: 1}
		domain := func(s string) {
			seen.domains++
			x, y := read(t, s), read(t, last)
			for _, pair := range [][2]*reals.Expr{{x, y}, {y, x}} {
				if got, err := reals.Compare(pair[0], pair[1], 0, 0); got != 0 || err != api.ErrDomain {
					t.Errorf("P17: Compare of %q and %q = %d, %d", s, last, got, err)
				}
			}
		}
		eachDrawn(d, 500, domain, func(s string, root *tree.Node) {
			u, uRoot := last, lastRoot
			if d.below(3) == 0 {
				// Something near, or the same.
				u = []string{"(" + s + ") + 1/1000", s, "-(-(" + s + "))", "(" + s + ")*(22/7)/pi"}[d.below(4)]
				near, err, _ := tree.Read(u)
				if err != api.OK {
					return
				}
				uRoot = near
			}
			last, lastRoot = s, root
			bits := []int{0, 1, 2, 8, 20, 60}[d.below(6)]
			left, _ := ratio(root)
			right, _ := ratio(uRoot)
			if left != nil && right != nil {
				comparedAre(t, s, u, bits, left.Cmp(right), 0)
				return
			}
			texts, counts := told(&tree.Node{Kind: tree.Subtract, Left: root, Right: uRoot}, fuel, fuel)
			for i := range texts {
				if want, ok := wordsOfCompare(texts[i], bits); ok {
					seen.answers++
					comparedAre(t, s, u, bits, want, counts[i])
					return
				}
			}
			seen.dry++
			if got, err := reals.Compare(read(t, s), read(t, u), bits, fuel); got != 0 || err != api.ErrFuel {
				t.Errorf("P17: Compare of %q and %q: (%d, %d) = %d, %d", s, u, bits, fuel, got, err)
			}
		})
		seen.enough(t, 200, 30, 10)
	}
}

// eachValue calls ask with expressions drawn by a fixed rule and about what
// their values are.
func eachValue(d *drawn, cases int, ask func(s string, about *big.Float)) {
	pi, e := constants()
	eachDrawn(d, cases, func(s string) {}, func(s string, root *tree.Node) {
		about, ok := approximate(root, pi, e)
		if ok && about.MantExp(nil) < 150 {
			ask(s, about)
		}
	})
}

func tenth(n int) *big.Float {
	return new(big.Float).SetPrec(precision).SetInt(new(big.Int).Exp(big.NewInt(10), big.NewInt(int64(n)), nil))
}

// P15: a decimal is no further than 1 from what it is of.
func TestP15Values(t *testing.T) {
	d := &drawn{seed: 31, functions: true}
	answers := 0
	eachValue(d, 600, func(s string, about *big.Float) {
		n := d.below(61)
		got, err := read(t, s).Decimal(n, 3000)
		if err != api.OK {
			return
		}
		answers++
		m, ok := new(big.Float).SetPrec(precision).SetString(got)
		if !ok || strings.ContainsAny(got, ".e+ ") {
			t.Errorf("P15: Decimal of %q: (%d) = %q", s, n, got)
			return
		}
		apart := m.Sub(m, new(big.Float).Mul(about, tenth(n)))
		bound := new(big.Float).Add(float(1), new(big.Float).SetMantExp(float(1), -40))
		if apart.Abs(apart).Cmp(bound) > 0 {
			t.Errorf("P15: Decimal of %q: (%d) = %s, but it is %s", s, n, got, about.Text('g', 70))
		}
	})
	if answers < 250 {
		t.Errorf("only %d answers", answers)
	}
}

// P16: the terms are those of the value, as far as an approximated one tells them.
func TestP16Values(t *testing.T) {
	d := &drawn{seed: 32, functions: true}
	checked := 0
	tiny := new(big.Float).SetMantExp(float(1), -150)
	eachValue(d, 600, func(s string, about *big.Float) {
		got, err := read(t, s).Terms(8, 3000)
		if err != api.OK {
			return
		}
		x := about
		for i := range got {
			term, ok := new(big.Float).SetPrec(precision).SetString(got[i])
			if !ok {
				t.Errorf("P16: a term of %q is %q", s, got[i])
				return
			}
			rest := new(big.Float).Sub(x, term)
			if rest.Cmp(tiny) <= 0 && rest.Cmp(new(big.Float).Neg(tiny)) >= 0 {
				return
			}
			if rest.Sign() < 0 || rest.Cmp(float(1)) >= 0 {
				t.Errorf("P16: Terms of %q = %q, but it is %s", s, got, about.Text('g', 70))
				return
			}
			checked++
			x = new(big.Float).Quo(float(1), rest)
		}
	})
	if checked < 800 {
		t.Errorf("only %d terms", checked)
	}
}

// P17: the greater is greater, the less is less, and what is near is near.
func TestP17Values(t *testing.T) {
	d := &drawn{seed: 33, functions: true}
	answers := [3]int{}
	lastAbout, _ := constants()
	last := "pi"
	eachValue(d, 600, func(s string, about *big.Float) {
		u, uAbout := last, lastAbout
		last, lastAbout = s, about
		if d.below(3) == 0 {
			u = "(" + s + ") + 1/1024"
			uAbout = new(big.Float).Add(about, new(big.Float).SetMantExp(float(1), -10))
		}
		bits := d.below(61)
		y, err, _ := reals.Read(u)
		if err != api.OK {
			return
		}
		got, err := reals.Compare(read(t, s), y, bits, 3000)
		if err != api.OK {
			return
		}
		answers[got+1]++
		apart := new(big.Float).Sub(about, uAbout)
		bound := new(big.Float).SetMantExp(float(1), -bits)
		bound.Add(bound, new(big.Float).SetMantExp(float(1), -200))
		near := new(big.Float).Abs(apart).Cmp(bound) <= 0
		if got == api.Near && !near || got != api.Near && got != apart.Sign() {
			t.Errorf("P17: Compare of %q and %q with %d bits = %d, but they are %s apart", s, u, bits, got, apart.Text('g', 20))
		}
	})
	if answers[0] < 50 || answers[1] < 10 || answers[2] < 50 {
		t.Errorf("only %v answers", answers)
	}
}
