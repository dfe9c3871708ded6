package known

import "reals/whole"

// end is one of the two between which a value lies: top/bottom, not in lowest
// terms, as nothing hangs on that.
type end struct {
	top    whole.Int
	bottom whole.Int
}

// upright tells the same end with a bottom that is not below 0.
func (e end) upright() end {
	if e.bottom.Sign() < 0 {
		return end{top: e.top.Negated(), bottom: e.bottom.Negated()}
	}
	return e
}

func (e end) times(n whole.Int) end {
	return end{top: e.top.Times(n), bottom: e.bottom}
}

func (e end) floor() whole.Int {
	floor, _ := e.top.Divided(e.bottom)
	return floor
}

// isNear tells whether the end lies from m - 1 to m + 1.
func (e end) isNear(m whole.Int) bool {
	apart := e.top.Minus(m.Times(e.bottom))
	return apart.Size().Compare(e.bottom) <= 0
}

// middle tells the middle of two ends and 1/2, cut down to a whole number.
func middle(e end, f end) whole.Int {
	bottom := e.bottom.Times(f.bottom)
	first := e.top.Times(f.bottom)
	second := f.top.Times(e.bottom)
	sum := end{top: first.Plus(second).Plus(bottom), bottom: bottom.Plus(bottom)}
	return sum.floor()
}
