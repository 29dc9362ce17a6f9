package realroot

import (
	"slices"

	"straightedge/api"
	"straightedge/rational"
	"straightedge/unipoly"
)

// spot is a valid root. It shares the memory of the root that it was made of, and of other spots, and modifies none of it.
type spot struct {
	poly   []api.Rat
	lo, hi api.Rat
	before int // the sign of poly at lo, which is 0 exactly if the root is exact
}

// examine returns the root as a spot, or the error that makes it invalid.
func examine(r api.Root) (spot, api.Errno) {
	if e := unipoly.Check(r.Poly); e != api.OK {
		return spot{}, e
	}
	lo, hi := r.Interval.Lo, r.Interval.Hi
	order, e := rational.Cmp(lo, hi)
	if len(r.Poly) <= 1 || e != api.OK || order > 0 {
		return spot{}, api.ErrArg
	}
	once, e := unipoly.Squarefree(r.Poly)
	if e != api.OK {
		return spot{}, e
	}
	if !slices.EqualFunc(once, r.Poly, same) {
		return spot{}, api.ErrArg
	}
	value, e := unipoly.Eval(r.Poly, lo)
	if e != api.OK {
		return spot{}, e
	}
	s := spot{poly: r.Poly, lo: lo, hi: hi, before: rational.Sign(value)}
	if order == 0 {
		return s.unless(s.before != 0)
	}
	return s.examineEnds()
}

// examineEnds returns the spot, which is not exact, if its ends are those of the interval of a root.
func (s spot) examineEnds() (spot, api.Errno) {
	// The polynomial has no multiple root, so that this is the chain that counts its roots.
	c, e := sturm(s.poly)
	if e != api.OK {
		return spot{}, e
	}
	left, right, e := c.ends(s.lo, s.hi)
	if e != api.OK {
		return spot{}, e
	}
	return s.unless(left.root || right.root || left.variations-right.variations != 1)
}

// unless returns the spot, unless it is invalid.
func (s spot) unless(invalid bool) (spot, api.Errno) {
	if invalid {
		return spot{}, api.ErrArg
	}
	return s, api.OK
}

func (s spot) exact() bool { return s.before == 0 }

// bisect halves the interval of a spot that is not exact.
func (s *spot) bisect() api.Errno {
	m, e := middle(s.lo, s.hi)
	if e != api.OK {
		return e
	}
	value, e := unipoly.Eval(s.poly, m)
	if e != api.OK {
		return e
	}
	switch rational.Sign(value) {
	case 0:
		s.lo, s.hi, s.before = m, m, 0
	case s.before:
		s.lo = m
	default:
		s.hi = m
	}
	return api.OK
}

// refine bisects the spot until it is exact, or its interval is not wider than 2^-bits.
func (s *spot) refine(bits int) api.Errno {
	most, _ := rational.Make(powerOfTwo(0), powerOfTwo(bits))
	for !s.exact() {
		width, e := rational.Sub(s.hi, s.lo)
		if e != api.OK {
			return e
		}
		if compare(width, most) <= 0 {
			break
		}
		if e := s.bisect(); e != api.OK {
			return e
		}
	}
	return api.OK
}

// signOf returns the sign of a valid polynomial at the spot.
func (s spot) signOf(q []api.Rat) (int, api.Errno) {
	if len(q) == 0 {
		return 0, api.OK
	}
	if !s.exact() {
		if common, e := s.isRootOf(q); e != api.OK || common {
			return 0, e
		}
		if e := s.leave(q); e != api.OK {
			return 0, e
		}
	}
	value, e := unipoly.Eval(q, s.hi)
	return rational.Sign(value), e
}

// isRootOf reports whether a spot that is not exact is a root of q.
func (s spot) isRootOf(q []api.Rat) (bool, api.Errno) {
	common, e := unipoly.GCD(q, s.poly)
	if e != api.OK || len(common) == 1 {
		return false, e
	}
	count, e := Count(common, s.lo, s.hi)
	return count == 1, e
}

// leave bisects a spot, which is not a root of q, until it leaves the roots of q.
func (s *spot) leave(q []api.Rat) api.Errno {
	c, e := counter(q)
	if e != api.OK {
		return e
	}
	for !s.exact() {
		count, e := c.count(s.lo, s.hi)
		if e != api.OK {
			return e
		}
		if count == 0 {
			break
		}
		if e := s.bisect(); e != api.OK {
			return e
		}
	}
	return api.OK
}

// compare returns -1, 0 or 1.
func (s spot) compare(other spot) (int, api.Errno) {
	low, e := s.signOf(lineThrough(other.lo))
	if e != api.OK || other.exact() {
		return low, e
	}
	if low != 1 {
		return -1, api.OK
	}
	high, e := s.signOf(lineThrough(other.hi))
	if e != api.OK {
		return 0, e
	}
	if high != -1 {
		return 1, api.OK
	}
	// Both roots lie in the interval of the other one, at whose lower end its polynomial has the sign before.
	sign, e := s.signOf(other.poly)
	return -sign * other.before, e
}
