package whole

// limbsOf cuts a number into limbs.
func limbsOf(n uint64) []uint32 {
	limbs := []uint32{}
	for n > 0 {
		limbs = append(limbs, uint32(n))
		n >>= 32
	}
	return limbs
}

// used tells how many limbs are left without the noughts at the upper end.
func used(limbs []uint32) int {
	n := len(limbs)
	for n > 0 && limbs[n-1] == 0 {
		n--
	}
	return n
}

func isOne(limbs []uint32) bool {
	return len(limbs) == 1 && limbs[0] == 1
}

func compareLimbs(a []uint32, b []uint32) int {
	if len(a) < len(b) {
		return -1
	}
	if len(a) > len(b) {
		return 1
	}
	for i := len(a) - 1; i >= 0; i-- {
		if a[i] < b[i] {
			return -1
		}
		if a[i] > b[i] {
			return 1
		}
	}
	return 0
}

func addLimbs(a []uint32, b []uint32) []uint32 {
	length := len(a)
	if len(b) > length {
		length = len(b)
	}
	sum := make([]uint32, length+1)
	carry := uint64(0)
	for i := 0; i < len(sum); i++ {
		if i < len(a) {
			carry += uint64(a[i])
		}
		if i < len(b) {
			carry += uint64(b[i])
		}
		sum[i] = uint32(carry)
		carry >>= 32
	}
	return sum[:used(sum)]
}

// subtractLimbs tells a - b of a that is not less than b.
func subtractLimbs(a []uint32, b []uint32) []uint32 {
	difference := make([]uint32, len(a))
	borrow := uint64(0)
	for i := 0; i < len(a); i++ {
		taken := borrow
		if i < len(b) {
			taken += uint64(b[i])
		}
		have := uint64(a[i])
		borrow = 0
		if have < taken {
			have += 1 << 32
			borrow = 1
		}
		difference[i] = uint32(have - taken)
	}
	return difference[:used(difference)]
}

func multiplyLimbs(a []uint32, b []uint32) []uint32 {
	// The inner loop is the faster one, so it takes the longer number.
	short := a
	long := b
	if len(a) > len(b) {
		short = b
		long = a
	}
	product := make([]uint32, len(a)+len(b))
	for i := 0; i < len(short); i++ {
		row := product[i : i+len(long)]
		factor := uint64(short[i])
		carry := uint64(0)
		for j := 0; j < len(long) && j < len(row); j++ {
			// At the most (2^32 - 1)^2 + 2 (2^32 - 1), which is 2^64 - 1.
			carry += factor*uint64(long[j]) + uint64(row[j])
			row[j] = uint32(carry)
			carry >>= 32
		}
		product[i+len(long)] = uint32(carry)
	}
	return product[:used(product)]
}

// shiftDown drops the lowest bits.
func shiftDown(a []uint32, bits int) []uint32 {
	if bits < 0 || bits/32 >= len(a) {
		return []uint32{}
	}
	whole := bits / 32
	part := uint(bits % 32)
	result := make([]uint32, len(a)-whole)
	for i := 0; i < len(result); i++ {
		two := uint64(a[i+whole])
		if i+whole+1 < len(a) {
			two += uint64(a[i+whole+1]) << 32
		}
		result[i] = uint32(two >> part)
	}
	return result[:used(result)]
}

// shiftUp lays so many bits, all 0, below the lowest one.
func shiftUp(a []uint32, bits int) []uint32 {
	if bits < 0 {
		return []uint32{}
	}
	whole := bits / 32
	part := uint(bits % 32)
	result := make([]uint32, len(a)+whole+1)
	carry := uint64(0)
	for i := 0; i < len(a); i++ {
		carry += uint64(a[i]) << part
		result[i+whole] = uint32(carry)
		carry >>= 32
	}
	result[len(a)+whole] = uint32(carry)
	return result[:used(result)]
}

// bitLength tells how many bits the number has.
func bitLength(a []uint32) int {
	if len(a) == 0 {
		return 0
	}
	length := 32 * (len(a) - 1)
	for top := a[len(a)-1]; top > 0; top /= 2 {
		length++
	}
	return length
}
