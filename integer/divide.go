package integer

import "math/bits"

// divMag returns the quotient a / b, rounded down, and the remainder, where b is not 0.
func divMag(a, b []uint32) ([]uint32, []uint32) {
	if cmpMag(a, b) < 0 {
		return nil, clone(a)
	}
	if len(b) == 1 {
		quot := clone(a)
		rest := divLimb(quot, b[0])
		return trim(quot), ofWord(uint64(rest))
	}
	return divLong(a, b)
}

// divLimb divides m by a limb in place, and returns the remainder.
func divLimb(m []uint32, divisor uint32) uint32 {
	rest := uint64(0)
	for i := range len(m) {
		at := len(m) - 1 - i
		rest = rest<<32 | uint64(m[at])
		m[at] = uint32(rest / uint64(divisor))
		rest %= uint64(divisor)
	}
	return uint32(rest)
}

// divLong is the long division of Knuth (volume 2, 4.3.1, algorithm D), where b has at least two limbs and is not greater than a.
func divLong(a, b []uint32) ([]uint32, []uint32) {
	// With the highest bit of the divisor set, an estimated digit is at most two too big.
	scaling := bits.LeadingZeros32(b[len(b)-1])
	divisor := shiftLeft(b, scaling)
	rest := make([]uint32, len(a)+1)
	copy(rest, shiftLeft(a, scaling))
	quot := make([]uint32, len(a)-len(b)+1)
	for i := range len(quot) {
		at := len(quot) - 1 - i
		quot[at] = takeDigit(rest[at:at+len(b)+1], divisor)
	}
	return trim(quot), shiftRight(trim(rest), scaling)
}

// takeDigit returns the digit rest / divisor, and leaves the remainder in rest, which has one limb more than the divisor.
func takeDigit(rest, divisor []uint32) uint32 {
	n := len(divisor)
	first, second := uint64(divisor[n-1]), uint64(divisor[n-2])
	top := uint64(rest[n])<<32 | uint64(rest[n-1])
	digit, left := top/first, top%first
	for digit >= 1<<32 || digit*second > left<<32|uint64(rest[n-2]) {
		digit--
		left += first
		if left >= 1<<32 {
			break
		}
	}
	if subProduct(rest, divisor, uint32(digit)) {
		digit--
		addTo(rest, divisor)
	}
	return uint32(digit)
}

// subProduct subtracts divisor * digit from rest in place, which has one limb more, and reports whether this went below 0.
func subProduct(rest, divisor []uint32, digit uint32) bool {
	n := len(divisor)
	borrow := uint64(0)
	for i := range n {
		borrow += uint64(divisor[i]) * uint64(digit)
		low := uint32(borrow)
		borrow >>= 32
		if rest[i] < low {
			borrow++
		}
		rest[i] -= low
	}
	below := uint64(rest[n]) < borrow
	rest[n] -= uint32(borrow)
	return below
}
