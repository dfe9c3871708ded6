package reals_test

import (
	"math/big"
	"strings"
	"testing"

	"reals/api"
	"reals/reals"
	"reals/tree"
)

// Here the document's words stand once more, in big.Int and big.Rat, without any
// care for speed: what the program answers is held against it.

type matrix2 [4]*big.Int // a b; c d

func mat(a, b, c, d int64) matrix2 {
	return matrix2{big.NewInt(a), big.NewInt(b), big.NewInt(c), big.NewInt(d)}
}

// The symbols by their letters; a digit's letter comes behind the letter d.
func matrixOf(symbol string) matrix2 {
	switch symbol {
	case "+":
		return mat(1, 0, 0, 1)
	case "-":
		return mat(-1, 0, 0, 1)
	case "o":
		return mat(1, -1, 1, 1)
	case "w":
		return mat(1, 1, -1, 1)
	case "d-":
		return mat(1, 0, 1, 2)
	case "d0":
		return mat(3, 1, 1, 3)
	}
	return mat(2, 1, 0, 1)
}

type col [2]*big.Int

type machine struct {
	sign  bool
	cols  []col
	args  []*machine
	read  []int
	terms func(k int) matrix2
	k     int
	given []string
	steps *int // of the whole network

	nest  bool
	after func() *machine // makes the right argument of a nest
	turns func()          // of a function's node: looks whether enough is known
}

func comb(a, u, c, v *big.Int) *big.Int {
	return new(big.Int).Add(new(big.Int).Mul(a, u), new(big.Int).Mul(c, v))
}

func (m *machine) absorb(i, j int, x matrix2) {
	u, v := m.cols[i], m.cols[j]
	m.cols[i] = col{comb(x[0], u[0], x[2], v[0]), comb(x[0], u[1], x[2], v[1])}
	m.cols[j] = col{comb(x[1], u[0], x[3], v[0]), comb(x[1], u[1], x[3], v[1])}
}

func after(cols []col, x matrix2) []col {
	list := []col{}
	for _, c := range cols {
		p := new(big.Int).Sub(new(big.Int).Mul(x[3], c[0]), new(big.Int).Mul(x[1], c[1]))
		q := new(big.Int).Sub(new(big.Int).Mul(x[0], c[1]), new(big.Int).Mul(x[2], c[0]))
		list = append(list, col{p, q})
	}
	return list
}

func fits(cols []col) bool {
	below, above := 0, 0
	for _, c := range cols {
		for _, n := range c {
			switch n.Sign() {
			case -1:
				below++
			case 1:
				above++
			}
		}
	}
	return below == 0 && above > 0 || above == 0 && below > 0
}

func (m *machine) can() string {
	if m.turns != nil {
		return ""
	}
	for i, a := range m.args {
		if a.sign && m.read[i] == 0 {
			return ""
		}
	}
	list := []string{"d-", "d+", "d0"}
	if m.sign && len(m.given) == 0 {
		list = []string{"+", "-", "o", "w"}
	}
	for _, s := range list {
		if fits(after(m.cols, matrixOf(s))) {
			return s
		}
	}
	return ""
}

func width(u, v col) *big.Rat {
	part := func(c col) *big.Rat {
		sum := new(big.Int).Add(c[0], c[1])
		if sum.Sign() == 0 {
			return nil
		}
		return new(big.Rat).SetFrac(new(big.Int).Sub(c[0], c[1]), sum)
	}
	x, y := part(u), part(v)
	if x == nil || y == nil {
		return new(big.Rat)
	}
	return x.Sub(x, y).Abs(x)
}

func most(x, y *big.Rat) *big.Rat {
	if x.Cmp(y) < 0 {
		return y
	}
	return x
}

func (m *machine) side() int {
	if len(m.cols) == 2 {
		return 0
	}
	for i, a := range m.args {
		if a.sign && m.read[i] == 0 {
			return i
		}
	}
	if fits(m.cols) {
		c := m.cols
		left := most(width(c[0], c[2]), width(c[1], c[3]))
		right := most(width(c[0], c[1]), width(c[2], c[3]))
		if m.nest {
			left.Mul(left, big.NewRat(8, 1))
		}
		switch left.Cmp(right) {
		case 1:
			return 0
		case -1:
			return 1
		}
	}
	digits := [2]int{m.read[0], m.read[1]}
	for i, a := range m.args {
		if a.sign {
			digits[i]--
		}
	}
	if digits[0] <= digits[1] {
		return 0
	}
	return 1
}

// wanted: the symbol at a place, or none, if it wants more than the most steps.
func (m *machine) wanted(place, mostSteps int) (string, bool) {
	for len(m.given) <= place {
		if *m.steps > mostSteps {
			return "", false
		}
		if s := m.can(); s != "" {
			m.cols = after(m.cols, matrixOf(s))
			m.given = append(m.given, s)
			*m.steps++
			continue
		}
		if m.terms != nil {
			m.absorb(0, 1, m.terms(m.k))
			m.k++
			*m.steps++
			continue
		}
		i := m.side()
		if i == len(m.args) {
			m.args = append(m.args, m.after())
		}
		s, ok := m.args[i].wanted(m.read[i], mostSteps)
		if !ok {
			return "", false
		}
		*m.steps++
		m.read[i]++
		switch {
		case len(m.cols) == 2:
			m.absorb(0, 1, matrixOf(s))
		case i == 0:
			m.absorb(0, 2, matrixOf(s))
			m.absorb(1, 3, matrixOf(s))
		default:
			m.absorb(0, 1, matrixOf(s))
			m.absorb(2, 3, matrixOf(s))
		}
		if m.turns != nil {
			m.turns()
		}
	}
	return m.given[place], *m.steps <= mostSteps
}

// ratio: the fraction that a tree is, or nil; false, if it cannot be worked out.
func ratio(n *tree.Node) (*big.Rat, bool) {
	if n == nil {
		return nil, true
	}
	left, ok := ratio(n.Left)
	right, well := ratio(n.Right)
	if !ok || !well || n.Kind == tree.Divide && right != nil && right.Sign() == 0 {
		return nil, false
	}
	switch n.Kind {
	case tree.Number:
		return big.NewRat(int64(n.Value), 1), true
	case tree.Minus:
		if left != nil {
			return new(big.Rat).Neg(left), true
		}
	case tree.Sqrt, tree.Exp, tree.Ln1p, tree.Atan:
		if left != nil && left.Sign() < 0 {
			return nil, false
		}
		if left != nil && left.Sign() == 0 && n.Kind == tree.Exp {
			return big.NewRat(1, 1), true
		}
		if left != nil && left.Sign() == 0 {
			return left, true
		}
	}
	if left == nil || right == nil {
		return nil, true
	}
	switch n.Kind {
	case tree.Add:
		return new(big.Rat).Add(left, right), true
	case tree.Subtract:
		return new(big.Rat).Sub(left, right), true
	case tree.Multiply:
		return new(big.Rat).Mul(left, right), true
	}
	return new(big.Rat).Quo(left, right), true
}

func pairs(numbers ...int64) []col {
	list := []col{}
	for i := 0; i+1 < len(numbers); i += 2 {
		list = append(list, col{big.NewInt(numbers[i]), big.NewInt(numbers[i+1])})
	}
	return list
}

func terms(n *tree.Node) func(k int) matrix2 {
	return func(k int) matrix2 {
		switch {
		case n.Kind == tree.Pi && k == 0:
			return mat(0, 4, 1, 1)
		case n.Kind == tree.Pi:
			return mat(0, int64(k*k), 1, int64(2*k+1))
		case n.Kind == tree.E && k == 0:
			return mat(2, 1, 1, 0)
		case n.Kind == tree.E && k%3 == 2:
			return mat(int64(2*(k+1)/3), 1, 1, 0)
		case n.Kind == tree.E:
			return mat(1, 1, 1, 0)
		}
		for k >= len(n.Terms) {
			k -= len(n.Terms) - 1
		}
		return mat(int64(n.Terms[k]), 1, 1, 0)
	}
}

func build(n *tree.Node, steps *int) *machine {
	if r, _ := ratio(n); r != nil {
		return &machine{sign: r.Sign() < 0, cols: []col{{r.Num(), r.Denom()}}, steps: steps}
	}
	m := &machine{steps: steps}
	if n.Left == nil {
		m.cols = pairs(1, 0, 0, 1)
		m.terms = terms(n)
		return m
	}
	switch n.Kind {
	case tree.Sqrt, tree.Exp, tree.Ln1p, tree.Atan:
		if r, _ := ratio(n.Left); r != nil {
			return ofRatio(n.Kind, r, steps)
		}
		return function(n.Kind, build(n.Left, steps))
	}
	m.args = append(m.args, build(n.Left, steps))
	if n.Kind == tree.Minus {
		m.sign = true
		m.cols = pairs(-1, 0, 0, 1)
		m.read = []int{0}
		return m
	}
	m.args = append(m.args, build(n.Right, steps))
	m.read = []int{0, 0}
	m.sign = n.Kind == tree.Subtract || m.args[0].sign || m.args[1].sign
	switch n.Kind {
	case tree.Add:
		m.cols = pairs(0, 0, 1, 0, 1, 0, 0, 1)
	case tree.Subtract:
		m.cols = pairs(0, 0, 1, 0, -1, 0, 0, 1)
	case tree.Multiply:
		m.cols = pairs(1, 0, 0, 0, 0, 0, 0, 1)
	case tree.Divide:
		m.cols = pairs(0, 0, 1, 0, 0, 1, 0, 0)
	}
	return m
}

// nearby is NEAR.
func nearby(r *big.Rat) (a, b *big.Int) {
	for b = big.NewInt(1); ; b.Lsh(b, 1) {
		product := new(big.Rat).Mul(r, new(big.Rat).SetInt(new(big.Int).Mul(b, b)))
		cut := new(big.Int).Quo(product.Num(), product.Denom())
		if a = new(big.Int).Sqrt(cut); a.Cmp(big.NewInt(16)) >= 0 {
			return a, b
		}
	}
}

// cd is c and d; T goes by the name of exp.
func cd(kind tree.Kind, k int64) (int64, int64) {
	switch {
	case kind == tree.Exp:
		return 1, 4*k + 2
	case k == 0:
		return 1, 1
	case kind == tree.Atan:
		return k * k, 2*k + 1
	}
	return ((k + 1) / 2) * ((k + 1) / 2), k + 1
}

func raise(t *machine) *machine {
	return &machine{cols: pairs(1, -1, 1, 1), args: []*machine{t}, read: []int{0}, steps: t.steps}
}

func ofRatio(kind tree.Kind, r *big.Rat, steps *int) *machine {
	m := &machine{cols: pairs(1, 0, 0, 1), steps: steps}
	p, q := r.Num(), r.Denom()
	times := func(x, y *big.Int) *big.Int { return new(big.Int).Mul(x, y) }
	if kind == tree.Sqrt {
		a, b := nearby(r)
		m.terms = func(k int) matrix2 { return matrix2{times(a, q), times(b, p), times(b, q), times(a, q)} }
		return m
	}
	m.terms = func(k int) matrix2 {
		x, y := p, q
		if kind != tree.Ln1p && k > 0 {
			x, y = times(p, p), times(q, q)
		}
		c, d := cd(kind, int64(k))
		return matrix2{big.NewInt(0), times(big.NewInt(c), x), y, times(big.NewInt(d), y)}
	}
	if kind == tree.Exp {
		return raise(m)
	}
	return m
}

func function(kind tree.Kind, x *machine) *machine {
	if x.sign {
		x = &machine{cols: pairs(1, 0, 0, 1), args: []*machine{x}, read: []int{0}, steps: x.steps}
	}
	f := &machine{cols: pairs(1, 0, 0, 1), args: []*machine{x}, read: []int{0}, steps: x.steps}
	f.turns = func() {
		high := new(big.Rat).SetInt64(-1) // infinity
		if f.cols[0][1].Sign() != 0 {
			high = new(big.Rat).SetFrac(f.cols[0][0], f.cols[0][1])
		}
		low := new(big.Rat).SetFrac(f.cols[1][0], f.cols[1][1])
		if known(kind, low, high) {
			*f = *turned(kind, x, low)
		}
	}
	return f
}

// known is ENOUGH, divided by h' l'.
func known(kind tree.Kind, low, high *big.Rat) bool {
	one, four := big.NewRat(1, 1), big.NewRat(4, 1)
	if high.Sign() < 0 {
		return kind == tree.Atan && low.Cmp(four) >= 0
	}
	if kind == tree.Sqrt {
		return high.Cmp(new(big.Rat).Add(low, low)) <= 0
	}
	bound := one
	if kind == tree.Ln1p {
		bound = new(big.Rat).Add(one, low)
	}
	if kind == tree.Atan {
		bound = new(big.Rat).Add(one, new(big.Rat).Mul(high, low))
	}
	apart := new(big.Rat).Sub(high, low)
	return apart.Mul(apart, four).Cmp(bound) <= 0
}

func turned(kind tree.Kind, x *machine, low *big.Rat) *machine {
	none := new(big.Int)
	if kind == tree.Sqrt {
		a, b := nearby(low)
		var another func() *machine
		another = func() *machine {
			return &machine{nest: true, cols: []col{{none, none}, {b, none}, {a, b}, {none, a}}, args: []*machine{x}, read: []int{0, 0}, after: another, steps: x.steps}
		}
		return another()
	}
	l, under := low.Num(), low.Denom()
	minus := new(big.Int).Neg(l)
	z := &machine{args: []*machine{x}, read: []int{0}, steps: x.steps}
	switch {
	case l.Sign() == 0:
		z = x
	case kind == tree.Exp:
		z.cols = []col{{under, none}, {minus, under}}
	case kind == tree.Ln1p:
		z.cols = []col{{under, none}, {minus, new(big.Int).Add(l, under)}}
	case kind == tree.Atan:
		z.cols = []col{{under, l}, {minus, under}}
	}
	square := &machine{cols: pairs(1, 0, 0, 0, 0, 0, 0, 1), args: []*machine{z, z}, read: []int{0, 0}, steps: x.steps}
	var nest func(k int64) *machine
	nest = func(k int64) *machine {
		c, d := cd(kind, k)
		left := z
		if kind != tree.Ln1p && k > 0 {
			left = square
		}
		return &machine{nest: true, cols: pairs(0, 0, c, 0, 0, 1, 0, d), args: []*machine{left}, read: []int{0, 0}, after: func() *machine { return nest(k + 1) }, steps: x.steps}
	}
	r := nest(0)
	if kind == tree.Exp {
		r = raise(r)
	}
	if l.Sign() == 0 {
		return &machine{cols: pairs(1, 0, 0, 1), args: []*machine{r}, read: []int{0}, steps: x.steps}
	}
	f := &machine{args: []*machine{ofRatio(kind, low, x.steps), r}, read: []int{0, 0}, steps: x.steps}
	f.cols = pairs(0, 0, 1, 0, 1, 0, 0, 1)
	if kind == tree.Exp {
		f.cols = pairs(1, 0, 0, 0, 0, 0, 0, 1)
	}
	return f
}

// told tells what Digits ought to, for k from 0 on, as far as so many steps do,
// and how many steps each takes.
func told(root *tree.Node, k, mostSteps int) ([]string, []int) {
	steps := 0
	m := build(root, &steps)
	text := ""
	place := 0
	if !m.sign {
		text = "+"
		place = -1
	}
	texts, counts := []string{}, []int{}
	for i := 0; i <= k; i++ {
		if place >= 0 {
			s, ok := m.wanted(place, mostSteps)
			if !ok {
				break
			}
			text += strings.TrimPrefix(s, "d")
		}
		place++
		texts = append(texts, text)
		counts = append(counts, steps)
	}
	return texts, counts
}

// ends tells what Encloses ought to of a text that Digits told.
func ends(digits string) (string, string) {
	m := matrixOf(digits[:1])
	for _, d := range digits[1:] {
		n := matrixOf("d" + string(d))
		m = matrix2{comb(m[0], n[0], m[1], n[2]), comb(m[0], n[1], m[1], n[3]), comb(m[2], n[0], m[3], n[2]), comb(m[2], n[1], m[3], n[3])}
	}
	over := func(p, q *big.Int) string {
		if q.Sign() == 0 {
			return "1/0"
		}
		return new(big.Rat).SetFrac(p, q).String()
	}
	return over(m[1], m[3]), over(m[0], m[2])
}

// drawn makes expressions by a fixed rule.
type drawn struct {
	seed      uint64
	functions bool
}

func (d *drawn) below(n int) int {
	d.seed = d.seed*6364136223846793005 + 1442695040888963407
	return int(d.seed >> 33 % uint64(n))
}

func (d *drawn) expression(depth int) string {
	leaves := []string{"pi", "e", "cf[1; 1]", "cf[0; 2, 3]", "cf[12; 999999999]", "cf[3; 1, 2, 3, 4, 5, 6, 7, 8]", "0", "1", "2", "7", "1/3", "22/7", "exp(0)", "1000000", "(3 - 5)"}
	if depth == 0 || d.below(8) == 0 {
		return leaves[d.below(len(leaves))]
	}
	left := d.expression(depth - 1)
	switch d.below(12) {
	case 0, 1:
		return "-(" + left + ")"
	case 2, 3, 4, 5:
		if d.functions {
			return []string{"sqrt", "exp", "ln1p", "atan"}[d.below(4)] + "(" + left + ")"
		}
	}
	right := d.expression(depth - 1)
	return "(" + left + ")" + []string{"+", "-", "*", "/"}[d.below(4)] + "(" + right + ")"
}

// P7 to P11, P13, P14: signs, digits, ends, steps, as the document's words have them.
func TestAgainstTheWords(t *testing.T) {
	short, domains, dry := againstTheWords(t, &drawn{seed: 5}, 1000, 300)
	if short < 1500 || domains < 20 || dry < 20 {
		t.Errorf("only %d, %d, %d cases", short, domains, dry)
	}
}

// P12, and P13 and P14 with functions.
func TestP12AgainstTheWords(t *testing.T) {
	short, domains, dry := againstTheWords(t, &drawn{seed: 6, functions: true}, 1000, 600)
	if short < 1500 || domains < 30 || dry < 100 {
		t.Errorf("only %d, %d, %d cases", short, domains, dry)
	}
}

// againstTheWords tells how many answers, domain errors and fuel errors it saw.
func againstTheWords(t *testing.T, d *drawn, cases, fuel int) (short, domains, dry int) {
	for i := 0; i < cases; i++ {
		s := d.expression(1 + i%4)
		root, err, _ := tree.Read(s)
		if err != api.OK {
			continue
		}
		x, _, _ := reals.Read(s)
		if _, ok := ratio(root); !ok {
			domains++
			if got, err := x.Digits(3, 0); got != "" || err != api.ErrDomain {
				t.Errorf("P7: Digits of %q = %q, %d", s, got, err)
			}
			continue
		}
		k := []int{0, 1, 4, 12, 30}[d.below(5)]
		texts, counts := told(root, k, fuel)
		for n := 0; n <= k; n++ {
			if n >= len(texts) {
				dry++
				if got, err := x.Digits(n, fuel); got != "" || err != api.ErrFuel {
					t.Errorf("P13: Digits of %q: (%d, %d) = %q, %d", s, n, fuel, got, err)
				}
				break
			}
			if n < k-2 && n > 2 {
				continue
			}
			short++
			checkTold(t, x, s, n, counts[n], texts[n])
		}
	}
	return short, domains, dry
}

func checkTold(t *testing.T, x *reals.Expr, s string, k, fuel int, digits string) {
	t.Helper()
	if got, err := x.Digits(k, fuel); got != digits || err != api.OK {
		t.Errorf("P14: Digits of %q: (%d, %d) = %q, %d, want %q", s, k, fuel, got, err, digits)
	}
	low, high := ends(digits)
	if a, b, err := x.Encloses(k, fuel); a != low || b != high || err != api.OK {
		t.Errorf("P14: Encloses of %q: (%d, %d) = %q, %q, %d, want %q, %q", s, k, fuel, a, b, err, low, high)
	}
	if fuel == 0 {
		return
	}
	if got, err := x.Digits(k, fuel-1); got != "" || err != api.ErrFuel {
		t.Errorf("P13: Digits of %q: (%d, %d) = %q, %d", s, k, fuel-1, got, err)
	}
	if a, b, err := x.Encloses(k, fuel-1); a != "" || b != "" || err != api.ErrFuel {
		t.Errorf("P13: Encloses of %q: (%d, %d) = %q, %q, %d", s, k, fuel-1, a, b, err)
	}
}
