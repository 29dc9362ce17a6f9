// Package integer is layer 1: exact arithmetic on integers whose magnitude has at most api.MaxLimbs limbs. See shared/doc/01-integer.md.
package integer

import "straightedge/api"

const maxBits = 32 * api.MaxLimbs

// Valid reports whether a is a valid integer.
func Valid(a api.Int) bool {
	n := len(a.Mag)
	if n == 0 {
		return !a.Neg
	}
	return n <= api.MaxLimbs && a.Mag[n-1] != 0
}

// Of returns n.
func Of(n int) api.Int {
	word := uint64(n)
	if n < 0 {
		// Negated as a word, because -n has no int if n is the least one.
		word = -word
	}
	return api.Int{Neg: n < 0, Mag: ofWord(word)}
}

// Add returns a + b.
func Add(a, b api.Int) (api.Int, api.Errno) {
	if !Valid(a) || !Valid(b) {
		return api.Int{}, api.ErrArg
	}
	return sum(a, b)
}

// Sub returns a - b.
func Sub(a, b api.Int) (api.Int, api.Errno) {
	if !Valid(a) || !Valid(b) {
		return api.Int{}, api.ErrArg
	}
	return sum(a, api.Int{Neg: !b.Neg, Mag: b.Mag})
}

// Mul returns a * b.
func Mul(a, b api.Int) (api.Int, api.Errno) {
	if !Valid(a) || !Valid(b) {
		return api.Int{}, api.ErrArg
	}
	return limited(a.Neg != b.Neg, mulMag(a.Mag, b.Mag))
}

// DivMod returns the quotient, rounded down, and the remainder, which has the sign of b.
func DivMod(a, b api.Int) (api.Int, api.Int, api.Errno) {
	if !Valid(a) || !Valid(b) {
		return api.Int{}, api.Int{}, api.ErrArg
	}
	if len(b.Mag) == 0 {
		return api.Int{}, api.Int{}, api.ErrZero
	}
	quot, rest := divMag(a.Mag, b.Mag)
	if a.Neg != b.Neg && len(rest) > 0 {
		quot, rest = addMag(quot, ofWord(1)), subMag(b.Mag, rest)
	}
	return signed(a.Neg != b.Neg, quot), signed(b.Neg, rest), api.OK
}

// GCD returns the greatest common divisor.
func GCD(a, b api.Int) (api.Int, api.Errno) {
	if !Valid(a) || !Valid(b) {
		return api.Int{}, api.ErrArg
	}
	return signed(false, gcdMag(a.Mag, b.Mag)), api.OK
}

// Cmp returns -1, 0 or 1.
func Cmp(a, b api.Int) (int, api.Errno) {
	if !Valid(a) || !Valid(b) {
		return 0, api.ErrArg
	}
	switch {
	case a.Neg && b.Neg:
		return cmpMag(b.Mag, a.Mag), api.OK
	case a.Neg:
		return -1, api.OK
	case b.Neg:
		return 1, api.OK
	}
	return cmpMag(a.Mag, b.Mag), api.OK
}

// Sqrt returns the square root, rounded down, and whether it is exact.
func Sqrt(a api.Int) (api.Int, bool, api.Errno) {
	if !Valid(a) {
		return api.Int{}, false, api.ErrArg
	}
	if a.Neg {
		return api.Int{}, false, api.ErrNegative
	}
	root := sqrtMag(a.Mag)
	exact := cmpMag(mulMag(root, root), a.Mag) == 0
	return signed(false, root), exact, api.OK
}

// Shift returns a * 2^n, rounded down.
func Shift(a api.Int, n int) (api.Int, api.Errno) {
	if !Valid(a) {
		return api.Int{}, api.ErrArg
	}
	if len(a.Mag) == 0 {
		return api.Int{}, api.OK
	}
	if n >= 0 {
		if n > maxBits-bitsMag(a.Mag) {
			return api.Int{}, api.ErrTooBig
		}
		return signed(a.Neg, shiftLeft(a.Mag, n)), api.OK
	}
	// No integer has bits that a longer shift would drop; and the least int has no negative.
	down := -max(n, -maxBits)
	if !a.Neg {
		return signed(false, shiftRight(a.Mag, down)), api.OK
	}
	// A magnitude m is to be rounded up; for m > 0 this is (m - 1) / 2^n, rounded down, and 1.
	one := ofWord(1)
	return signed(true, addMag(shiftRight(subMag(a.Mag, one), down), one)), api.OK
}

// Bits returns the number of bits of the magnitude.
func Bits(a api.Int) (int, api.Errno) {
	if !Valid(a) {
		return 0, api.ErrArg
	}
	return bitsMag(a.Mag), api.OK
}

// Small returns a as an int.
func Small(a api.Int) (int, bool) {
	if !Valid(a) || len(a.Mag) > 2 {
		return 0, false
	}
	word := wordOf(a.Mag)
	if a.Neg {
		if word > 1<<63 {
			return 0, false
		}
		return int(-word), true
	}
	if word >= 1<<63 {
		return 0, false
	}
	return int(word), true
}

// sum returns a + b. Of a zero, either sign is accepted.
func sum(a, b api.Int) (api.Int, api.Errno) {
	if a.Neg == b.Neg {
		return limited(a.Neg, addMag(a.Mag, b.Mag))
	}
	if cmpMag(a.Mag, b.Mag) < 0 {
		return limited(b.Neg, subMag(b.Mag, a.Mag))
	}
	return limited(a.Neg, subMag(a.Mag, b.Mag))
}

// limited is signed for a magnitude that may be too big.
func limited(neg bool, mag []uint32) (api.Int, api.Errno) {
	if len(mag) > api.MaxLimbs {
		return api.Int{}, api.ErrTooBig
	}
	return signed(neg, mag), api.OK
}

// signed makes an integer of a magnitude that nothing else refers to. Zero is not negative.
func signed(neg bool, mag []uint32) api.Int {
	return api.Int{Neg: neg && len(mag) > 0, Mag: mag}
}
