package integer

import "math/bits"

// The functions on magnitudes take limbs of which the last is not 0, and return such limbs in new memory, except where they say that they work in place.

// trim cuts off the zeros at the end.
func trim(m []uint32) []uint32 {
	n := len(m)
	for n > 0 && m[n-1] == 0 {
		n--
	}
	return m[:n]
}

// clone returns a copy.
func clone(m []uint32) []uint32 {
	c := make([]uint32, len(m))
	copy(c, m)
	return c
}

// ofWord returns the magnitude of a word.
func ofWord(word uint64) []uint32 {
	return trim([]uint32{uint32(word), uint32(word >> 32)})
}

// wordOf returns a magnitude of at most two limbs.
func wordOf(m []uint32) uint64 {
	word := uint64(0)
	for i := range len(m) {
		word |= uint64(m[i]) << (32 * i)
	}
	return word
}

// cmpMag returns -1, 0 or 1.
func cmpMag(a, b []uint32) int {
	if len(a) != len(b) {
		if len(a) < len(b) {
			return -1
		}
		return 1
	}
	for i := range len(a) {
		x, y := a[len(a)-1-i], b[len(a)-1-i]
		if x < y {
			return -1
		}
		if x > y {
			return 1
		}
	}
	return 0
}

// bitsMag returns the number of binary digits.
func bitsMag(m []uint32) int {
	n := len(m)
	if n == 0 {
		return 0
	}
	return 32*(n-1) + bits.Len32(m[n-1])
}

// addMag returns a + b.
func addMag(a, b []uint32) []uint32 {
	if len(a) < len(b) {
		a, b = b, a
	}
	total := make([]uint32, len(a)+1)
	copy(total, a)
	addTo(total, b)
	return trim(total)
}

// subMag returns a - b, where b is not greater than a.
func subMag(a, b []uint32) []uint32 {
	rest := clone(a)
	subFrom(rest, b)
	return trim(rest)
}

// addTo adds b to the limbs of total in place, which are at least as many; a last carry is dropped.
func addTo(total, b []uint32) {
	carry := uint64(0)
	for i := range len(total) {
		if i < len(b) {
			carry += uint64(b[i])
		} else if carry == 0 {
			return
		}
		carry += uint64(total[i])
		total[i] = uint32(carry)
		carry >>= 32
	}
}

// subFrom subtracts b from the limbs of rest in place, where b is not greater.
func subFrom(rest, b []uint32) {
	borrow := uint64(0)
	for i := range len(rest) {
		if i < len(b) {
			borrow += uint64(b[i])
		} else if borrow == 0 {
			return
		}
		difference := uint64(rest[i]) - borrow
		rest[i] = uint32(difference)
		borrow = difference >> 63
	}
}

// mulMag returns a * b.
func mulMag(a, b []uint32) []uint32 {
	product := make([]uint32, len(a)+len(b))
	for i := range len(a) {
		product[i+len(b)] = addProduct(product[i:i+len(b)], b, a[i])
	}
	return trim(product)
}

// addProduct adds b * factor to as many limbs of total in place, and returns the carry.
func addProduct(total, b []uint32, factor uint32) uint32 {
	carry := uint64(0)
	for i := range len(b) {
		carry += uint64(b[i])*uint64(factor) + uint64(total[i])
		total[i] = uint32(carry)
		carry >>= 32
	}
	return uint32(carry)
}

// scale replaces m by m * factor + carry in place, and returns the carry.
func scale(m []uint32, factor, carry uint32) uint32 {
	sum := uint64(carry)
	for i := range len(m) {
		sum += uint64(m[i]) * uint64(factor)
		m[i] = uint32(sum)
		sum >>= 32
	}
	return uint32(sum)
}

// shiftLeft returns m * 2^n.
func shiftLeft(m []uint32, n int) []uint32 {
	limbs, count := n/32, n%32
	shifted := make([]uint32, len(m)+limbs+1)
	copy(shifted[limbs:], m)
	for i := range len(m) {
		part := uint64(m[len(m)-1-i]) << count
		at := limbs + len(m) - 1 - i
		shifted[at] = uint32(part)
		shifted[at+1] |= uint32(part >> 32)
	}
	return trim(shifted)
}

// shiftRight returns m / 2^n, rounded down.
func shiftRight(m []uint32, n int) []uint32 {
	limbs, count := n/32, n%32
	if limbs >= len(m) {
		return nil
	}
	shifted := clone(m[limbs:])
	for i := range len(shifted) {
		part := uint64(shifted[i])
		if i+1 < len(shifted) {
			part |= uint64(shifted[i+1]) << 32
		}
		shifted[i] = uint32(part >> count)
	}
	return trim(shifted)
}

// sqrtMag returns the square root, rounded down: Newton's method from above.
func sqrtMag(m []uint32) []uint32 {
	if len(m) == 0 {
		return nil
	}
	root := shiftLeft(ofWord(1), (bitsMag(m)+1)/2)
	for {
		quot, _ := divMag(m, root)
		next := shiftRight(addMag(root, quot), 1)
		if cmpMag(next, root) >= 0 {
			return root
		}
		root = next
	}
}
