package reals

import (
	"reals/api"
	"reals/known"
	"reals/matrix"
	"reals/network"
	"reals/plan"
	"reals/whole"
)

// reading is how far a request has read the symbols of the whole.
type reading struct {
	number *network.Number
	known  known.Known
}

func newReading(part *plan.Part, fuel int) *reading {
	return &reading{number: network.New(part, fuel), known: known.Nothing()}
}

// more reads one more symbol: false, if the fuel does not do.
func (r *reading) more() bool {
	if r.number == nil {
		return false
	}
	symbol := r.number.Next()
	if symbol == matrix.None {
		return false
	}
	r.known = r.known.With(symbol)
	return true
}

// decimal reads till enough is known for n decimals (P15).
func decimal(part *plan.Part, n int, fuel int) (whole.Int, api.Errno) {
	read := newReading(part, fuel)
	m, done := read.known.Decimal(n)
	for !done {
		if !read.more() {
			return whole.Int{}, api.ErrFuel
		}
		m, done = read.known.Decimal(n)
	}
	return m, api.OK
}

// terms reads till enough is known for k terms of what is no fraction (P16).
func terms(part *plan.Part, k int, fuel int) ([]whole.Int, api.Errno) {
	read := newReading(part, fuel)
	list := []whole.Int{}
	for len(list) < k {
		term, done := read.known.Term()
		if done {
			list = append(list, term)
			read.known = read.known.Beyond(term)
		} else if !read.more() {
			return nil, api.ErrFuel
		}
	}
	return list, api.OK
}

// compared reads till it is told on which side of 0 a difference lies, or that
// it is near 0 (P17).
func compared(apart *plan.Part, bits int, fuel int) (int, api.Errno) {
	read := newReading(apart, fuel)
	side, done := read.known.Compared(bits)
	for !done {
		if !read.more() {
			return 0, api.ErrFuel
		}
		side, done = read.known.Compared(bits)
	}
	return side, api.OK
}

func texts(numbers []whole.Int) []string {
	list := []string{}
	for i := 0; i < len(numbers); i++ {
		list = append(list, numbers[i].Text())
	}
	return list
}
