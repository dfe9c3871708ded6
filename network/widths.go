package network

import "reals/whole"

// compareWidths tells -1, 0 or 1, as LEFT so many times is below RIGHT, equal or
// above (P10), of columns that fit. All widths are taken times the same number above 0: the
// product of all four sums p + q. (p - q)/(p + q) - (r - s)/(r + s) times
// (p + q)(r + s) is 2 (p s - q r).
func compareWidths(c columns, times int) int {
	left := greater(scaled(c[0], c[2], c[1], c[3]), scaled(c[1], c[3], c[0], c[2]))
	right := greater(scaled(c[0], c[1], c[2], c[3]), scaled(c[2], c[3], c[0], c[1]))
	return left.Times(whole.Of(times)).Compare(right)
}

// scaled tells half the width of u and v times the sums of all four columns.
func scaled(u column, v column, other column, another column) whole.Int {
	cross := u.p.Times(v.q).Minus(u.q.Times(v.p))
	sums := sum(other).Times(sum(another))
	return cross.Times(sums).Size()
}

// sum tells p + q; but 1 of (0, 0), as its widths are 0 and it is not to make
// others 0.
func sum(c column) whole.Int {
	if c.isNought() {
		return whole.Of(1)
	}
	return c.p.Plus(c.q)
}

func greater(a whole.Int, b whole.Int) whole.Int {
	if a.Compare(b) < 0 {
		return b
	}
	return a
}
