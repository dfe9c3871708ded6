package reals_test

import (
	"strings"
	"testing"

	"reals/api"
	"reals/reals"
)

// good checks that s is read and written as want.
func good(t *testing.T, s string, want string) {
	t.Helper()
	x, err, at := reals.Read(s)
	if x == nil || err != api.OK || at != 0 {
		t.Errorf("Read(%q) = %v, %d, %d, want an expression, 0, 0", s, x != nil, err, at)
		return
	}
	if got := x.Text(); got != want {
		t.Errorf("Text of %q = %q, want %q", s, got, want)
	}
}

// bad checks that s is refused with the error and the place.
func bad(t *testing.T, s string, wantErr api.Errno, wantAt int) {
	t.Helper()
	x, err, at := reals.Read(s)
	if x != nil || err != wantErr || at != wantAt {
		t.Errorf("Read(%.60q) = %v, %d, %d, want no expression, %d, %d", s, x != nil, err, at, wantErr, wantAt)
	}
}

// twin checks P1's rule of errors on any text, and that what comes out can be
// written and, if it is not too long by then, read again.
func twin(t *testing.T, s string) {
	x, err, at := reals.Read(s)
	if err != api.OK {
		inside := at >= 0 && at <= len(s)
		if x != nil || !inside || (err != api.ErrSyntax && at != 0) {
			t.Fatalf("Read(%q) = %v, %d, %d", s, x != nil, err, at)
		}
		return
	}
	if x == nil || at != 0 {
		t.Fatalf("Read(%q) = %v, OK, %d", s, x != nil, at)
	}
	text := x.Text()
	y, err, _ := reals.Read(text)
	if err == api.ErrLong && len(text) > api.MaxText {
		return
	}
	if err != api.OK || y.Text() != text {
		t.Fatalf("Text of %q = %q, which is read as something else (%d)", s, text, err)
	}
}

func TestP1AnyBytes(t *testing.T) {
	for a := 0; a < 256; a++ {
		twin(t, string([]byte{byte(a)}))
		for b := 0; b < 256; b++ {
			twin(t, string([]byte{byte(a), byte(b)}))
			twin(t, "cf[1; 2"+string([]byte{byte(a), byte(b)}))
			twin(t, "(-3"+string([]byte{byte(a), byte(b)})+"4)")
		}
	}
}

// Texts of words drawn by a fixed rule, up to and past the greatest length.
func TestP1AnyWords(t *testing.T) {
	list := []string{"1", "0", "12345", "0000000000", "pi", "e", "cf[", "cf[1; 2, 3]", "sqrt(", "exp(", "ln1p(", "atan(", "(", ")", "(2)", "+", "-", "*", "/", ";", ",", "]", " ", "x", "\xff", "1+", "*2", "-("}
	seed := 1
	for i := 0; i < 100000; i++ {
		s := ""
		for size := i % 130; len(s) < size; {
			seed = (seed*1103515245 + 12345) % 2147483648
			s += list[seed/65536%len(list)]
		}
		twin(t, s)
	}
}

// Sums that are closed at every depth: here most texts are read.
func TestP1GoodWords(t *testing.T) {
	seed := 7
	for i := 0; i < 20000; i++ {
		s := ""
		open := 0
		for len(s) < i%100 {
			seed = (seed*1103515245 + 12345) % 2147483648
			switch seed / 65536 % 8 {
			case 0:
				s += "-"
			case 1:
				s += "("
				open++
			case 2:
				s += "exp("
				open++
			case 3:
				s += "1+"
			case 4:
				s += "pi*"
			case 5:
				s += "cf[0; 1, 9]/"
			case 6:
				s += "2-"
			case 7:
				if open > 0 {
					s += "3)*"
					open--
				}
			}
		}
		twin(t, s+"1"+strings.Repeat(")", open))
	}
}

func TestP1FirstErrorHolds(t *testing.T) {
	bad(t, strings.Repeat("x", 121), api.ErrLong, 0)
	bad(t, strings.Repeat("(", 121), api.ErrLong, 0)
	bad(t, strings.Repeat("-", 13)+"1 x", api.ErrSyntax, 15)
	bad(t, "1"+strings.Repeat("+1", 20)+"+", api.ErrSyntax, 42)
	bad(t, strings.Repeat("(", 13)+"1", api.ErrSyntax, 14)
}

func TestP1NoExpression(t *testing.T) {
	var x *reals.Expr
	if got := x.Text(); got != "" {
		t.Errorf("Text of nil = %q", got)
	}
	if got := (&reals.Expr{}).Text(); got != "" {
		t.Errorf("Text of an empty Expr = %q", got)
	}
}

func TestP2EachBeginsAnew(t *testing.T) {
	texts := []string{"1 + 2 * 3", "-cf[1; 2, 3]", "sqrt(2) - (pi - e)", "7"}
	kept := []*reals.Expr{}
	for _, s := range texts {
		x, err, _ := reals.Read(s)
		if err != api.OK {
			t.Fatalf("Read(%q): %d", s, err)
		}
		kept = append(kept, x)
		bad(t, s+" )", api.ErrSyntax, len(s)+1)
	}
	for round := 0; round < 3; round++ {
		for i, s := range texts {
			if got := kept[i].Text(); got != s {
				t.Errorf("round %d: Text = %q, want %q", round, got, s)
			}
			good(t, s, s)
		}
	}
}

func TestP3Words(t *testing.T) {
	good(t, "123456789", "123456789")
	bad(t, "1234567890", api.ErrSyntax, 9)
	good(t, "000000001", "1")
	bad(t, "0000000001", api.ErrSyntax, 9)
	good(t, "  1+   2  ", "1 + 2")
	good(t, "sqrt ( 2 )", "sqrt(2)")
	good(t, "cf [ 1 ; 2 , 3 ]", "cf[1; 2, 3]")
	good(t, "- - 1", "--1")
	bad(t, "1 2", api.ErrSyntax, 2)
	bad(t, "1e", api.ErrSyntax, 1)
	bad(t, "e1", api.ErrSyntax, 0)
	bad(t, "p i", api.ErrSyntax, 0)
	bad(t, "sqrt2", api.ErrSyntax, 0)
	bad(t, "ln 1p(1)", api.ErrSyntax, 0)
	bad(t, "E", api.ErrSyntax, 0)
	bad(t, "1\n", api.ErrSyntax, 1)
	bad(t, "1\x00", api.ErrSyntax, 1)
	bad(t, "1 + \xc2\xa0 2", api.ErrSyntax, 4)
}

func TestP3Grammar(t *testing.T) {
	good(t, "pi+e-pi*e/pi", "pi + e - pi * e / pi")
	good(t, "sqrt(1)+exp(2)+ln1p(3)+atan(4)", "sqrt(1) + exp(2) + ln1p(3) + atan(4)")
	good(t, "1-2-3", "1 - 2 - 3")
	good(t, "1/2/3", "1 / 2 / 3")
	good(t, "1-2*3", "1 - 2 * 3")
	good(t, "-1-1", "-1 - 1")
	good(t, "1---1", "1 - --1")
	good(t, "cf[0; 1]", "cf[0; 1]")
	good(t, "cf[0; 1, 2, 3, 4, 5, 6, 7, 8]", "cf[0; 1, 2, 3, 4, 5, 6, 7, 8]")
	good(t, "cf[999999999; 999999999]", "cf[999999999; 999999999]")
	bad(t, "+1", api.ErrSyntax, 0)
	bad(t, "1 + + 1", api.ErrSyntax, 4)
	bad(t, "1 ** 2", api.ErrSyntax, 3)
	bad(t, "1 - * 2", api.ErrSyntax, 4)
	bad(t, "-", api.ErrSyntax, 1)
	bad(t, "2(3)", api.ErrSyntax, 1)
	bad(t, "(2)(3)", api.ErrSyntax, 3)
	bad(t, "pi(3)", api.ErrSyntax, 2)
	bad(t, "sqrt -2", api.ErrSyntax, 5)
	bad(t, "sqrt[2]", api.ErrSyntax, 4)
	bad(t, "log(2)", api.ErrSyntax, 0)
	bad(t, "[1]", api.ErrSyntax, 0)
}

func TestP4Long(t *testing.T) {
	good(t, strings.Repeat(" ", 119)+"1", "1")
	good(t, "1"+strings.Repeat(" ", 119), "1")
	bad(t, strings.Repeat(" ", 120)+"1", api.ErrLong, 0)
	bad(t, strings.Repeat(" ", 120), api.ErrSyntax, 120)
	bad(t, strings.Repeat(" ", 121), api.ErrLong, 0)
	bad(t, strings.Repeat("(", 1000000), api.ErrLong, 0)
}

func TestP4EndsTooSoon(t *testing.T) {
	for _, s := range []string{"", " ", "   ", "-", "1 +", "1 + ", "(", "(1", "(1 ", "1*(2-", "sqrt", "sqrt ", "sqrt(", "sqrt(2", "atan((2)", "cf", "cf[", "cf[1", "cf[1;", "cf[1; 2", "cf[1; 2,", "cf[1; 2, 3 ", "cf[1; 1, 2, 3, 4, 5, 6, 7, 8"} {
		bad(t, s, api.ErrSyntax, len(s))
	}
}

func TestP4WrongWord(t *testing.T) {
	bad(t, "2 3", api.ErrSyntax, 2)
	bad(t, "sqrt 2", api.ErrSyntax, 5)
	bad(t, "1)", api.ErrSyntax, 1)
	bad(t, "(1))", api.ErrSyntax, 3)
	bad(t, "()", api.ErrSyntax, 1)
	bad(t, "(1 2)", api.ErrSyntax, 3)
	bad(t, "sqrt()", api.ErrSyntax, 5)
	bad(t, "1 + foo(", api.ErrSyntax, 4)
	bad(t, "x y z", api.ErrSyntax, 0)
	bad(t, "(1, 2)", api.ErrSyntax, 2)
}

func TestP4Cf(t *testing.T) {
	bad(t, "cf 1", api.ErrSyntax, 3)
	bad(t, "cf[-1; 2]", api.ErrSyntax, 3)
	bad(t, "cf[pi; 2]", api.ErrSyntax, 3)
	bad(t, "cf[1]", api.ErrSyntax, 4)
	bad(t, "cf[1, 2]", api.ErrSyntax, 4)
	bad(t, "cf[1; ]", api.ErrSyntax, 6)
	bad(t, "cf[1; 2; 3]", api.ErrSyntax, 7)
	bad(t, "cf[1; 2, ]", api.ErrSyntax, 9)
	bad(t, "cf[1; 2 3]", api.ErrSyntax, 8)
	bad(t, "cf[1; 2)", api.ErrSyntax, 7)
	bad(t, "cf[1; 0]", api.ErrSyntax, 6)
	bad(t, "cf[1; 2, 0]", api.ErrSyntax, 9)
	bad(t, "cf[1; 2, 000", api.ErrSyntax, 9)
	bad(t, "cf[1; 0000000001]", api.ErrSyntax, 6)
	bad(t, "cf[1; 1234567890]", api.ErrSyntax, 15)
	bad(t, "cf[1234567890; 1]", api.ErrSyntax, 12)
	bad(t, "cf[1; 1, 1, 1, 1, 1, 1, 1, 0]", api.ErrSyntax, 27)
	bad(t, "cf[1; 1, 2, 3, 4, 5, 6, 7, 8, 9]", api.ErrSyntax, 28)
	bad(t, "cf[1; 1, 2, 3, 4, 5, 6, 7, 8, 0]", api.ErrSyntax, 28)
	bad(t, "cf[1; 1, 2, 3, 4, 5, 6, 7, 8 ,", api.ErrSyntax, 29)
}

func TestP5Depth(t *testing.T) {
	for _, leaf := range []string{"1", "pi", "e", "cf[1; 2]"} {
		for _, c := range []struct{ open, shut, textOpen, textShut string }{
			{"(", ")", "", ""},
			{"-", "", "-", ""},
			{"exp(", ")", "exp(", ")"},
		} {
			text := strings.Repeat(c.textOpen, 12) + leaf + strings.Repeat(c.textShut, 12)
			deeper := strings.Repeat(c.open, 13) + leaf + strings.Repeat(c.shut, 13)
			good(t, strings.Repeat(c.open, 12)+leaf+strings.Repeat(c.shut, 12), text)
			bad(t, deeper, api.ErrDeep, 0)
			bad(t, "1+"+deeper+"*2", api.ErrDeep, 0)
		}
	}
	mixed := strings.Repeat("-(sqrt(", 4)
	good(t, mixed+"1"+strings.Repeat("))", 4), strings.Repeat("-sqrt(", 4)+"1"+strings.Repeat(")", 4))
	bad(t, mixed+"-1"+strings.Repeat("))", 4), api.ErrDeep, 0)
	bad(t, mixed+"(1)"+strings.Repeat("))", 4), api.ErrDeep, 0)
	bad(t, mixed+"exp(1)"+strings.Repeat("))", 4), api.ErrDeep, 0)
	good(t, strings.Repeat("(1)+", 13)+"1", strings.Repeat("1 + ", 13)+"1")
	good(t, strings.Repeat("-1*", 13)+"1", strings.Repeat("-1 * ", 13)+"1")
}

func TestP5Nodes(t *testing.T) {
	good(t, "1"+strings.Repeat("+1", 19), "1"+strings.Repeat(" + 1", 19))
	good(t, "-1"+strings.Repeat("+1", 19), "-1"+strings.Repeat(" + 1", 19))
	good(t, "exp(1)"+strings.Repeat("*e", 19), "exp(1)"+strings.Repeat(" * e", 19))
	good(t, "-pi"+strings.Repeat("/(e)", 19), "-pi"+strings.Repeat(" / e", 19))
	bad(t, "1"+strings.Repeat("+1", 20), api.ErrDeep, 0)
	bad(t, "--1"+strings.Repeat("-1", 19), api.ErrDeep, 0)
	bad(t, "atan(-1)"+strings.Repeat("/1", 19), api.ErrDeep, 0)
	bad(t, "exp(exp(1))"+strings.Repeat("*1", 19), api.ErrDeep, 0)
	bad(t, "cf[1;1]"+strings.Repeat("+pi", 20), api.ErrDeep, 0)
	// A cf is one node, however many numbers stand in it.
	good(t, "-1"+strings.Repeat("*1", 18)+"-cf[1;1,2,3,4,5,6,7,8]", "-1"+strings.Repeat(" * 1", 18)+" - cf[1; 1, 2, 3, 4, 5, 6, 7, 8]")
	bad(t, "--1"+strings.Repeat("*1", 18)+"-cf[1;1,2,3,4,5,6,7,8]", api.ErrDeep, 0)
}

func TestP6(t *testing.T) {
	good(t, "1-(2-3)*(4)", "1 - (2 - 3) * 4")
	good(t, "-(1*2)--3", "-(1 * 2) - -3")
	good(t, "007+000", "7 + 0")
	good(t, "cf[00;01,002]", "cf[0; 1, 2]")
	good(t, "(1+2)+3", "1 + 2 + 3")
	good(t, "1+(2+3)", "1 + (2 + 3)")
	good(t, "(1-2)+3", "1 - 2 + 3")
	good(t, "1+(2*3)", "1 + 2 * 3")
	good(t, "(1*2)+3", "1 * 2 + 3")
	good(t, "(1*2)/3", "1 * 2 / 3")
	good(t, "1*(2/3)", "1 * (2 / 3)")
	good(t, "(1+2)*(3-4)", "(1 + 2) * (3 - 4)")
	good(t, "(-1)*(-2)", "-1 * -2")
	good(t, "(-1)-(-2)", "-1 - -2")
	good(t, "-(-(1))", "--1")
	good(t, "-(1+2)", "-(1 + 2)")
	good(t, "-(1/2)", "-(1 / 2)")
	good(t, "-(sqrt((2)))", "-sqrt(2)")
	good(t, "(sqrt((1+2)))*((3))", "sqrt(1 + 2) * 3")
	good(t, "atan((1)-(2*(3)))", "atan(1 - 2 * 3)")
	good(t, "-(cf[1;2])/(pi)", "-cf[1; 2] / pi")
}
