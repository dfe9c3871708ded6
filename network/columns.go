package network

import (
	"reals/matrix"
	"reals/whole"
)

// column is a pair (p, q) of a node's numbers.
type column struct {
	p whole.Int
	q whole.Int
}

// columns are those of a node, in the document's order. A node of fewer than
// four has (0, 0) in place of the others: these neither change nor count, and
// what it reads of its only argument is then read as of a right one.
type columns [4]column

func pair(p int, q int) column {
	return column{p: whole.Of(p), q: whole.Of(q)}
}

// plainColumns are those of a node that tells what it reads.
func plainColumns() columns {
	return columns{pair(1, 0), pair(0, 1)}
}

func (c column) isNought() bool {
	return c.p.Sign() == 0 && c.q.Sign() == 0
}

// times tells the column with both its numbers times n.
func (c column) times(n whole.Int) column {
	return column{p: c.p.Times(n), q: c.q.Times(n)}
}

func (c column) plus(other column) column {
	return column{p: c.p.Plus(other.p), q: c.q.Plus(other.q)}
}

// read tells what becomes of two columns when m is read (P9).
func read(u column, v column, m matrix.Matrix) (column, column) {
	first := u.times(m.A).plus(v.times(m.C))
	second := u.times(m.B).plus(v.times(m.D))
	return first, second
}

// readLeft tells the columns when m is read of the left argument.
func (c columns) readLeft(m matrix.Matrix) columns {
	first, third := read(c[0], c[2], m)
	second, fourth := read(c[1], c[3], m)
	return columns{first, second, third, fourth}
}

// readRight tells the columns when m is read of the right or only argument, or
// of a constant.
func (c columns) readRight(m matrix.Matrix) columns {
	first, second := read(c[0], c[1], m)
	third, fourth := read(c[2], c[3], m)
	return columns{first, second, third, fourth}
}

// give tells the columns when a symbol of the matrix m is given (P9).
func (c columns) give(m matrix.Matrix) columns {
	result := columns{}
	for i := 0; i < len(c); i++ {
		p := m.D.Times(c[i].p).Minus(m.B.Times(c[i].q))
		q := m.A.Times(c[i].q).Minus(m.C.Times(c[i].p))
		result[i] = column{p: p, q: q}
	}
	return result
}

// fit tells whether the columns fit (P9).
func (c columns) fit() bool {
	return c.fitAfter(matrix.Of(1, 0, 0, 1))
}

// fitAfter tells whether the columns fit when a symbol of the matrix m is given.
// Of the numbers that they would have the signs will do.
func (c columns) fitAfter(m matrix.Matrix) bool {
	below := false
	above := false
	for i := 0; i < len(c); i++ {
		p := whole.CompareProducts(m.D, c[i].p, m.B, c[i].q)
		q := whole.CompareProducts(m.A, c[i].q, m.C, c[i].p)
		below = below || p < 0 || q < 0
		above = above || p > 0 || q > 0
		if below && above {
			return false
		}
	}
	return below != above
}

// halved takes out the twos that all numbers have in common. The symbols bring
// in no other factor, so this is what keeps the numbers short.
func (c columns) halved() columns {
	twos := -1
	for i := 0; i < len(c); i++ {
		twos = fewerTwos(twos, c[i].p)
		twos = fewerTwos(twos, c[i].q)
	}
	if twos < 1 {
		return c
	}
	result := columns{}
	for i := 0; i < len(c); i++ {
		result[i] = column{p: c[i].p.Halved(twos), q: c[i].q.Halved(twos)}
	}
	return result
}

// fewerTwos tells the lesser of twos (-1: not known yet) and n's own. 0 can be
// halved as often as is wanted.
func fewerTwos(twos int, n whole.Int) int {
	if n.Sign() == 0 {
		return twos
	}
	own := n.Twos()
	if twos < 0 || own < twos {
		return own
	}
	return twos
}
