package whole

import (
	"math/big"
	"strings"
	"testing"
)

// fromBig makes a whole number by Of, Times, Plus alone.
func fromBig(n *big.Int) Int {
	base := Of(1 << 16)
	result := Of(0)
	for _, b := range twoByTwo(n) {
		result = result.Times(base).Plus(Of(b))
	}
	if n.Sign() < 0 {
		return result.Negated()
	}
	return result
}

func twoByTwo(n *big.Int) []int {
	bytes := n.Bytes()
	if len(bytes)%2 == 1 {
		bytes = append([]byte{0}, bytes...)
	}
	list := []int{}
	for i := 0; i < len(bytes); i += 2 {
		list = append(list, int(bytes[i])<<8+int(bytes[i+1]))
	}
	return list
}

// samples: noughts, ones, powers of two and their neighbours, long numbers.
func samples() []*big.Int {
	one := big.NewInt(1)
	list := []*big.Int{big.NewInt(0)}
	for _, bits := range []uint{0, 1, 2, 5, 16, 30, 31, 32, 33, 62, 63, 64, 65, 95, 96, 97, 128, 160, 250} {
		power := new(big.Int).Lsh(one, bits)
		list = append(list, power, new(big.Int).Sub(power, one), new(big.Int).Add(power, one))
		list = append(list, new(big.Int).Sub(power, new(big.Int).Lsh(one, bits/2)))
	}
	seed := big.NewInt(3)
	for i := 0; i < 14; i++ {
		seed = new(big.Int).Mul(seed, big.NewInt(1000003+int64(i)*7919))
		list = append(list, seed, new(big.Int).Lsh(seed, uint(13*i)))
	}
	// A guessed limb is too great here, by 1 and by 2.
	for _, s := range []string{"7fffffff8000000000000000", "800000000000000000000003", "80000000fffffffe00000000", "80000000ffffffff", "fffffffeffffffff00000000", "ffffffffffffffff"} {
		n, _ := new(big.Int).SetString(s, 16)
		list = append(list, n)
	}
	for _, n := range list {
		list = append(list, new(big.Int).Neg(n))
	}
	return list
}

func same(t *testing.T, what string, got Int, want *big.Int) {
	t.Helper()
	if got.Text() != want.String() || got.Sign() != want.Sign() {
		t.Fatalf("%s = %s (sign %d), want %s", what, got.Text(), got.Sign(), want)
	}
	if n := len(got.limbs); n > 0 && got.limbs[n-1] == 0 || n == 0 && got.below {
		t.Fatalf("%s = %v is not in order", what, got)
	}
}

func TestOne(t *testing.T) {
	for _, a := range samples() {
		x := fromBig(a)
		same(t, "the number", x, a)
		same(t, "Negated", x.Negated(), new(big.Int).Neg(a))
		same(t, "Size", x.Size(), new(big.Int).Abs(a))
		if x.Twos() != int(a.TrailingZeroBits()) {
			t.Errorf("Twos of %s = %d", a, x.Twos())
		}
		for _, times := range []int{-1, 0, 1, 5, 31, 32, 33, 64, 70} {
			want := a
			if times > 0 {
				want = new(big.Int).Lsh(a, uint(times))
			}
			same(t, "Halved", fromBig(want).Halved(times), a)
		}
		same(t, "Halved more often than it has bits", x.Size().Halved(1000), big.NewInt(0))
		same(t, "Halved more often than it has bits", x.Negated().Halved(1000000), big.NewInt(0))
	}
}

func TestRoot(t *testing.T) {
	check := func(a *big.Int) {
		want := new(big.Int)
		if a.Sign() > 0 {
			want.Sqrt(a)
		}
		same(t, "the root of "+a.String(), fromBig(a).Root(), want)
	}
	for n := int64(-3); n < 1100; n++ {
		check(big.NewInt(n))
	}
	one := big.NewInt(1)
	for _, a := range samples() {
		check(a)
		square := new(big.Int).Mul(a, a)
		check(square)
		check(new(big.Int).Sub(square, one))
		check(new(big.Int).Add(square, one))
	}
}

func TestCompareProducts(t *testing.T) {
	small := []int64{-3, -2, -1, 0, 1, 2, 3, 7, 8}
	list := []*big.Int{}
	for i, n := range samples() {
		if i%3 == 0 {
			list = append(list, n)
		}
	}
	for i, b := range list {
		for j, d := range list {
			a := big.NewInt(small[(i+j)%len(small)])
			for _, n := range small {
				c := big.NewInt(n)
				want := new(big.Int).Mul(a, b).Cmp(new(big.Int).Mul(c, d))
				if got := CompareProducts(fromBig(a), fromBig(b), fromBig(c), fromBig(d)); got != want {
					t.Fatalf("%s * %s and %s * %s compare %d", a, b, c, d, got)
				}
				// Equal products of other factors, and next to them.
				product := fromBig(b).Times(fromBig(c))
				if got := CompareProducts(fromBig(b), fromBig(c), Of(1), product); got != 0 {
					t.Fatalf("%s * %s and their product compare %d", b, c, got)
				}
				if got := CompareProducts(Of(-1), product.Plus(Of(1)), fromBig(b).Negated(), fromBig(c)); got != -1 {
					t.Fatalf("-(%s * %s) and 1 less compare %d", b, c, got)
				}
			}
		}
	}
}

func TestTwo(t *testing.T) {
	list := samples()
	for _, a := range list {
		x := fromBig(a)
		for _, b := range list {
			y := fromBig(b)
			same(t, "Plus", x.Plus(y), new(big.Int).Add(a, b))
			same(t, "Minus", x.Minus(y), new(big.Int).Sub(a, b))
			same(t, "Times", x.Times(y), new(big.Int).Mul(a, b))
			if x.Compare(y) != a.Cmp(b) {
				t.Fatalf("Compare of %s and %s = %d", a, b, x.Compare(y))
			}
			factor := new(big.Int).GCD(nil, nil, new(big.Int).Abs(a), new(big.Int).Abs(b))
			same(t, "CommonFactor", CommonFactor(x, y), factor)
			quotient, rest := x.Divided(y)
			if b.Sign() <= 0 {
				same(t, "a quotient of nothing", quotient, big.NewInt(0))
				same(t, "the rest of nothing", rest, a)
				continue
			}
			wantQuotient, wantRest := new(big.Int).DivMod(a, b, new(big.Int))
			same(t, "the quotient of "+a.String()+" and "+b.String(), quotient, wantQuotient)
			same(t, "the rest", rest, wantRest)
		}
		same(t, "what it was", x, a)
	}
}

func TestOf(t *testing.T) {
	for _, n := range []int64{0, 1, -1, 1<<31 - 1, 1 << 31, -1 << 31, 1 << 32, 1<<63 - 1, -1 << 63} {
		same(t, "Of", Of(int(n)), big.NewInt(n))
	}
}

func TestText(t *testing.T) {
	ten := Of(10)
	x := Of(1)
	for i := 0; i < 100; i++ {
		noughts := strings.Repeat("0", i)
		if got := x.Text(); got != "1"+noughts {
			t.Errorf("Text of 10^%d = %q", i, got)
		}
		if got := x.Negated().Plus(Of(-7)).Text(); i > 1 && got != "-1"+noughts[1:]+"7" {
			t.Errorf("Text of -10^%d - 7 = %q", i, got)
		}
		x = x.Times(ten)
	}
	if got := (Int{}).Text(); got != "0" {
		t.Errorf("Text of 0 = %q", got)
	}
}

func TestPower(t *testing.T) {
	for _, base := range []int{-3, -1, 0, 1, 2, 10} {
		for _, times := range []int{0, 1, 2, 9, 31, 32, 33, 60} {
			want := new(big.Int).Exp(big.NewInt(int64(base)), big.NewInt(int64(times)), nil)
			same(t, "Power", Power(base, times), want)
		}
		same(t, "Power below 0", Power(base, -1), big.NewInt(1))
	}
}
