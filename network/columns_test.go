package network

import (
	"testing"

	"reals/matrix"
	"reals/whole"
)

func text(c columns) string {
	s := ""
	for i := 0; i < len(c); i++ {
		s += "(" + c[i].p.Text() + ", " + c[i].q.Text() + ")"
	}
	return s
}

func four(a, e, b, f, c, g, d, h int) columns {
	return columns{pair(a, e), pair(b, f), pair(c, g), pair(d, h)}
}

func TestP9Reads(t *testing.T) {
	m := matrix.Of(2, 3, 5, 7)
	c := four(1, 2, 3, 4, 5, 6, 7, 8)
	// a u + c v and b u + d v of the first and third, of the second and fourth.
	if got := text(c.readLeft(m)); got != "(27, 34)(41, 48)(38, 48)(58, 68)" {
		t.Errorf("P9: read of the left: %s", got)
	}
	if got := text(c.readRight(m)); got != "(17, 24)(24, 34)(45, 52)(64, 74)" {
		t.Errorf("P9: read of the right: %s", got)
	}
	two := columns{pair(1, 2), pair(3, 4)}
	if got := text(two.readRight(m)); got != "(17, 24)(24, 34)(0, 0)(0, 0)" {
		t.Errorf("P9: two columns: %s", got)
	}
}

func TestP9Gives(t *testing.T) {
	c := columns{pair(1, 10), pair(-3, 4), pair(0, 0), pair(0, -1)}
	// (d p - b q, a q - c p)
	if got := text(c.give(matrix.Of(2, 3, 5, 7))); got != "(-23, 15)(-33, 23)(0, 0)(3, -2)" {
		t.Errorf("P9: given: %s", got)
	}
}

func TestP9Fits(t *testing.T) {
	for _, c := range []struct {
		columns columns
		want    bool
	}{
		{four(0, 0, 0, 0, 0, 0, 0, 0), false},
		{four(1, 0, 0, 0, 0, 0, 0, 0), true},
		{four(0, 0, 0, 0, 0, 0, 0, 1), true},
		{four(-1, 0, 0, 0, 0, 0, 0, 0), true},
		{four(0, 0, 0, 0, 0, 0, 0, -1), true},
		{four(1, 2, 3, 4, 5, 6, 7, 8), true},
		{four(-1, -2, -3, -4, -5, -6, -7, -8), true},
		{four(1, 2, 3, 4, 5, 6, 7, -8), false},
		{four(-1, 2, 3, 4, 5, 6, 7, 8), false},
		{four(-1, -2, -3, -4, 5, -6, -7, -8), false},
		{four(0, 1, 0, -1, 0, 0, 0, 0), false},
	} {
		same := c.columns.give(matrix.Of(2, 1, 1, 3)).readRight(matrix.Of(1, 0, 0, 1))
		back := matrix.Of(3, -1, -1, 2)
		if same.fitAfter(back) != c.want {
			t.Errorf("P9: %s fit after: %v", text(same), !c.want)
		}
		if c.columns.fit() != c.want {
			t.Errorf("P9: %s fit: %v", text(c.columns), !c.want)
		}
	}
}

// A common factor that is taken out is a power of two, and leaves signs alone.
func TestP9Halved(t *testing.T) {
	for _, c := range []struct{ columns, want columns }{
		{four(0, 0, 0, 0, 0, 0, 0, 0), four(0, 0, 0, 0, 0, 0, 0, 0)},
		{four(4, -8, 0, 12, 0, 0, 16, 0), four(1, -2, 0, 3, 0, 0, 4, 0)},
		{four(4, -8, 0, 12, 0, 0, 16, 1), four(4, -8, 0, 12, 0, 0, 16, 1)},
		{four(0, 0, 0, 0, 0, 0, 0, 6), four(0, 0, 0, 0, 0, 0, 0, 3)},
		{four(2, 4, 8, 16, 32, 64, -6, 8), four(1, 2, 4, 8, 16, 32, -3, 4)},
	} {
		if got := text(c.columns.halved()); got != text(c.want) {
			t.Errorf("P9: %s becomes %s", text(c.columns), got)
		}
	}
	great := whole.Of(1)
	for i := 0; i < 100; i++ {
		great = great.Times(whole.Of(2))
	}
	c := columns{column{p: great, q: great.Negated()}}
	if got := text(c.halved()); got != "(1, -1)(0, 0)(0, 0)(0, 0)" {
		t.Errorf("P9: 2^100: %s", got)
	}
}

func TestP10Widths(t *testing.T) {
	for _, c := range []struct {
		columns columns
		want    int
	}{
		// The width of (1, 0), (0, 1) is 2, the greatest that there is.
		{four(1, 0, 1, 0, 0, 1, 0, 1), 1},
		{four(1, 0, 0, 1, 1, 0, 0, 1), -1},
		{four(1, 0, 0, 1, 0, 1, 1, 0), 0},
		{four(1, 2, 1, 2, 1, 2, 1, 2), 0},
		// The greater of two widths counts, not their sum: 1 and 1/2 are more than 3/4 and 3/4.
		{four(1, 1, 7, 1, 1, 0, 5, 3), 1},
		{four(7, 1, 1, 1, 5, 3, 1, 0), 1},
		{four(1, 1, 1, 0, 7, 1, 5, 3), -1},
		{four(7, 1, 5, 3, 1, 1, 1, 0), -1},
		// A column times something is still the same.
		{four(1, 1, 70, 10, 3, 0, 55, 33), 1},
		// (0, 0) makes the widths 0 in which it stands, and no others.
		{four(0, 0, 1, 0, 1, 0, 0, 1), 0},
		{four(0, 0, 1, 0, 1, 1, 0, 1), 1},
		{four(0, 0, 1, 1, 1, 0, 0, 1), -1},
		{four(1, 0, 0, 0, 0, 0, 0, 1), 0},
		{four(0, 0, 1, 0, 0, 1, 0, 0), 0},
		{four(1, 0, 0, 0, 1, 2, 0, 0), 1},
		{four(1, 0, 1, 2, 0, 0, 0, 0), -1},
		// None above 0.
		{four(-1, 0, -1, 0, 0, -1, 0, -1), 1},
		{four(-1, 0, 0, -1, -1, 0, 0, -1), -1},
	} {
		if got := compareWidths(c.columns, 1); got != c.want {
			t.Errorf("P10: the widths of %s compare %d, want %d", text(c.columns), got, c.want)
		}
	}
}
