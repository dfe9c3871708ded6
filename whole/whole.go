// Package whole has whole numbers of any size.
package whole

// Int is a whole number. Nothing changes one once it is made, so that two of
// them may share their limbs.
type Int struct {
	below bool     // it is below 0
	limbs []uint32 // its size, the lowest 32 bits first; the last limb is not 0
}

// Of makes a whole number of an int.
func Of(n int) Int {
	if n < 0 {
		// The size of the least int is no int, that of the one above it is.
		size := uint64(-(n + 1)) + 1
		return Int{below: true, limbs: limbsOf(size)}
	}
	return Int{below: false, limbs: limbsOf(uint64(n))}
}

// Sign tells -1, 0 or 1.
func (a Int) Sign() int {
	if len(a.limbs) == 0 {
		return 0
	}
	if a.below {
		return -1
	}
	return 1
}

// Negated tells -a.
func (a Int) Negated() Int {
	return Int{below: !a.below && len(a.limbs) > 0, limbs: a.limbs}
}

// Size tells a without its sign.
func (a Int) Size() Int {
	return Int{below: false, limbs: a.limbs}
}

// Compare tells -1, 0 or 1, as a is less than b, equal or greater.
func (a Int) Compare(b Int) int {
	if a.below != b.below {
		if a.below {
			return -1
		}
		return 1
	}
	if a.below {
		return compareLimbs(b.limbs, a.limbs)
	}
	return compareLimbs(a.limbs, b.limbs)
}

// Plus tells a + b.
func (a Int) Plus(b Int) Int {
	if a.below == b.below {
		return Int{below: a.below, limbs: addLimbs(a.limbs, b.limbs)}
	}
	switch compareLimbs(a.limbs, b.limbs) {
	case 1:
		return Int{below: a.below, limbs: subtractLimbs(a.limbs, b.limbs)}
	case -1:
		return Int{below: b.below, limbs: subtractLimbs(b.limbs, a.limbs)}
	}
	return Int{}
}

// Minus tells a - b.
func (a Int) Minus(b Int) Int {
	return a.Plus(b.Negated())
}

// Times tells a * b.
func (a Int) Times(b Int) Int {
	if len(a.limbs) == 0 || len(b.limbs) == 0 {
		return Int{}
	}
	below := a.below != b.below
	if isOne(a.limbs) {
		return Int{below: below, limbs: b.limbs}
	}
	if isOne(b.limbs) {
		return Int{below: below, limbs: a.limbs}
	}
	return Int{below: below, limbs: multiplyLimbs(a.limbs, b.limbs)}
}

// Power tells base to the power of times; 1 of times below 1.
func Power(base int, times int) Int {
	power := Of(1)
	factor := Of(base)
	for i := 0; i < times; i++ {
		power = power.Times(factor)
	}
	return power
}

// CompareProducts tells -1, 0 or 1, as a * b is less than c * d, equal or greater.
func CompareProducts(a Int, b Int, c Int, d Int) int {
	sign := a.Sign() * b.Sign()
	other := c.Sign() * d.Sign()
	if sign < other {
		return -1
	}
	if sign > other {
		return 1
	}
	return sign * compareSizes(a, b, c, d)
}

// compareSizes compares the sizes of a * b and c * d. It multiplies only where
// their lengths and their first factors do not tell.
func compareSizes(a Int, b Int, c Int, d Int) int {
	// A product has as many bits as its factors together, or one less.
	bits := bitLength(a.limbs) + bitLength(b.limbs)
	others := bitLength(c.limbs) + bitLength(d.limbs)
	if bits < others-1 {
		return -1
	}
	if bits > others+1 {
		return 1
	}
	if compareLimbs(a.limbs, c.limbs) == 0 {
		return compareLimbs(b.limbs, d.limbs)
	}
	product := multiplyLimbs(a.limbs, b.limbs)
	otherProduct := multiplyLimbs(c.limbs, d.limbs)
	return compareLimbs(product, otherProduct)
}

// Twos tells how often a can be halved; 0 of 0.
func (a Int) Twos() int {
	for i := 0; i < len(a.limbs); i++ {
		if a.limbs[i] == 0 {
			continue
		}
		count := 32 * i
		for limb := a.limbs[i]; limb%2 == 0; limb /= 2 {
			count++
		}
		return count
	}
	return 0
}

// Halved tells a/2^times, its size cut to a whole number. Of times below 1 it
// is a.
func (a Int) Halved(times int) Int {
	if times < 1 {
		return a
	}
	limbs := shiftDown(a.limbs, times)
	return Int{below: a.below && len(limbs) > 0, limbs: limbs}
}
