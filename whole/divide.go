package whole

import "strconv"

// Divided tells a/b, cut down to a whole number, and what is left of a. Of b
// that is not above 0 it tells 0 and a.
func (a Int) Divided(b Int) (Int, Int) {
	if b.Sign() <= 0 {
		return Int{}, a
	}
	quotient, rest := divideLimbs(a.limbs, b.limbs)
	if !a.below {
		return Int{limbs: quotient}, Int{limbs: rest}
	}
	if len(rest) == 0 {
		return Int{below: true, limbs: quotient}, Int{}
	}
	// What is left is not below 0: so the quotient goes one further down.
	further := addLimbs(quotient, limbsOf(1))
	left := subtractLimbs(b.limbs, rest)
	return Int{below: true, limbs: further}, Int{limbs: left}
}

// divideLimbs tells a/b, cut, and what is left, of b above 0.
func divideLimbs(a []uint32, b []uint32) ([]uint32, []uint32) {
	// With the top bit of b set a guessed limb is at most 2 too great.
	shift := 32*len(b) - bitLength(b)
	divisor := shiftUp(b, shift)
	shifted := shiftUp(a, shift)
	quotient := make([]uint32, len(shifted))
	rest := []uint32{}
	for i := len(shifted) - 1; i >= 0; i-- {
		rest = withLowest(rest, shifted[i])
		limb := guess(rest, divisor)
		product := multiplyLimbs(divisor, limbsOf(uint64(limb)))
		for limb > 0 && compareLimbs(product, rest) > 0 {
			limb--
			product = subtractLimbs(product, divisor)
		}
		rest = subtractLimbs(rest, product)
		quotient[i] = limb
	}
	return quotient[:used(quotient)], shiftDown(rest, shift)
}

// withLowest lays a limb below the others.
func withLowest(limbs []uint32, lowest uint32) []uint32 {
	result := []uint32{lowest}
	for i := 0; i < len(limbs); i++ {
		result = append(result, limbs[i])
	}
	return result[:used(result)]
}

// guess tells rest/divisor by their upper limbs: the limb itself, or a greater
// one. The rest is below the divisor with one limb more.
func guess(rest []uint32, divisor []uint32) uint32 {
	n := len(divisor)
	if n == 0 || len(rest) < n {
		return 0
	}
	top := uint64(rest[n-1])
	if len(rest) > n {
		top += uint64(rest[n]) << 32
	}
	first := uint64(divisor[n-1])
	if first == 0 {
		return 0
	}
	limb := top / first
	if limb > 0xffffffff {
		return 0xffffffff
	}
	return uint32(limb)
}

// CommonFactor tells the greatest whole number that divides both; 0 of 0 and 0.
func CommonFactor(a Int, b Int) Int {
	greater := a.Size()
	lesser := b.Size()
	for lesser.Sign() > 0 {
		_, rest := greater.Divided(lesser)
		greater = lesser
		lesser = rest
	}
	return greater
}

// Root tells the root of a, cut down to a whole number; 0 of a below 0.
func (a Int) Root() Int {
	if a.Sign() <= 0 {
		return Int{}
	}
	// By Newton's way, from a power of two that is above the root: it goes down
	// till it is the root cut, and not below that.
	above := shiftUp(limbsOf(1), (bitLength(a.limbs)+1)/2)
	root := Int{limbs: above}
	for root.Sign() > 0 {
		quotient, _ := a.Divided(root)
		better := root.Plus(quotient).Halved(1)
		if better.Compare(root) >= 0 {
			return root
		}
		root = better
	}
	return root
}

// Nine decimal places are as many as a limb has room for.
const (
	places   = 9
	tenPower = 1000000000
)

// Text writes the number in decimal.
func (a Int) Text() string {
	text := ""
	rest := a.limbs
	for len(rest) > 0 {
		quotient, low := divideSmall(rest, tenPower)
		rest = quotient
		part := strconv.Itoa(int(low))
		for len(rest) > 0 && len(part) < places {
			part = "0" + part
		}
		text = part + text
	}
	if text == "" {
		return "0"
	}
	if a.below {
		return "-" + text
	}
	return text
}

// divideSmall tells a/b, cut, and what is left; of b = 0 it tells 0 and 0.
func divideSmall(a []uint32, b uint32) ([]uint32, uint32) {
	if b == 0 {
		return []uint32{}, 0
	}
	quotient := make([]uint32, len(a))
	rest := uint64(0)
	for i := len(a) - 1; i >= 0; i-- {
		rest = rest<<32 + uint64(a[i])
		quotient[i] = uint32(rest / uint64(b))
		rest %= uint64(b)
	}
	return quotient[:used(quotient)], uint32(rest)
}
