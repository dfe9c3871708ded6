package matrix

import "reals/api"

// Symbol is one of the four signs and three digits by which a number is told (P8).
type Symbol int

// The symbols.
const (
	None   Symbol = 0 // no symbol
	Plus   Symbol = 1
	Minus  Symbol = 2
	Small  Symbol = 3 // the sign o
	Great  Symbol = 4 // the sign w
	Low    Symbol = 5 // the digit -1
	Middle Symbol = 6 // the digit 0
	High   Symbol = 7 // the digit 1
)

// Matrix tells the symbol's matrix.
func (s Symbol) Matrix() Matrix {
	switch s {
	case Minus:
		return Of(-1, 0, 0, 1)
	case Small:
		return Of(1, -1, 1, 1)
	case Great:
		return Of(1, 1, -1, 1)
	case Low:
		return Of(1, 0, 1, 2)
	case Middle:
		return Of(3, 1, 1, 3)
	case High:
		return Of(2, 1, 0, 1)
	}
	return Of(1, 0, 0, 1)
}

// Letter tells by which letter the symbol is written (P14).
func (s Symbol) Letter() byte {
	switch s {
	case Plus:
		return api.Plus
	case Minus:
		return api.Minus
	case Small:
		return api.Small
	case Great:
		return api.Great
	case Low:
		return '-'
	case Middle:
		return '0'
	case High:
		return '+'
	}
	return ' '
}
