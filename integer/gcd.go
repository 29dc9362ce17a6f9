package integer

// gcdMag returns the greatest common divisor, and 0 if both are 0.
func gcdMag(a, b []uint32) []uint32 {
	if cmpMag(a, b) < 0 {
		a, b = b, a
	}
	if len(b) > 2 {
		a, b = shorten(clone(a), clone(b))
	}
	if len(b) > 0 && len(a) > 2 {
		_, rest := divMag(a, b)
		a, b = b, rest
	}
	if len(b) == 0 {
		return clone(a)
	}
	x, y := wordOf(a), wordOf(b)
	for y != 0 {
		x, y = y, x%y
	}
	return ofWord(x)
}

// shorten takes steps of Euclid's algorithm (with Lehmer's shortcut, because fractions are reduced all the time) until b has at most two limbs. It works in place; b is not greater than a.
func shorten(a, b []uint32) ([]uint32, []uint32) {
	for len(b) > 2 {
		from := bitsMag(a) - windowBits
		s := simulate(window(a, from), window(b, from))
		if s.b0 != 0 {
			a, b = s.apply(a, b)
		} else {
			_, rest := divMag(a, b)
			a, b = b, rest
		}
	}
	return a, b
}

// windowBits is the number of leading bits that are simulated: with it, the coefficients of steps have less than 31 bits beside the sign, and apply does not overflow.
const windowBits = 62

// window returns the bits of m from the given place on, of which there are at most windowBits.
func window(m []uint32, from int) uint64 {
	var limbs [3]uint64
	for i := range len(limbs) {
		if at := from/32 + i; at < len(m) {
			limbs[i] = uint64(m[at])
		}
	}
	count := from % 32
	return (limbs[0]|limbs[1]<<32)>>count | limbs[2]<<(64-count)
}

// steps are several steps of Euclid's algorithm: (a, b) becomes (a0 a + b0 b, a1 a + b1 b).
type steps struct{ a0, b0, a1, b1 int64 }

// simulate takes steps of Euclid's algorithm for the leading bits of two magnitudes, as long as Collins' condition guarantees that these are the steps for the magnitudes, whatever their other bits.
func simulate(a, b uint64) steps {
	s := steps{a0: 1, b1: 1}
	for b != 0 {
		quot := a / b
		a, b = b, a%b
		next := steps{a0: s.a1, b0: s.b1, a1: s.a0 - int64(quot)*s.a1, b1: s.b0 - int64(quot)*s.b1}
		last, now := distance(next.b0), distance(next.b1)
		if b < now || a-b < last+now {
			break
		}
		s = next
	}
	return s
}

// distance returns the distance from 0.
func distance(n int64) uint64 {
	if n < 0 {
		return uint64(-n)
	}
	return uint64(n)
}

// apply takes the steps in place. Both results are at most b, so that the limbs of a beyond those of b need not be computed.
func (s steps) apply(a, b []uint32) ([]uint32, []uint32) {
	carry0, carry1 := int64(0), int64(0)
	for i := range len(b) {
		x, y := int64(a[i]), int64(b[i])
		carry0 += s.a0*x + s.b0*y
		carry1 += s.a1*x + s.b1*y
		a[i], b[i] = uint32(carry0), uint32(carry1)
		carry0 >>= 32
		carry1 >>= 32
	}
	return trim(a[:len(b)]), trim(b)
}
