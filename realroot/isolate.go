package realroot

import (
	"straightedge/api"
	"straightedge/rational"
)

// bound returns a power of 2 that is greater than the magnitudes of all roots of a monic polynomial that is not constant.
func bound(q []api.Rat) (api.Rat, api.Errno) {
	greatest := number(0)
	for _, coefficient := range q[:len(q)-1] {
		if a := size(coefficient); compare(a, greatest) > 0 {
			greatest = a
		}
	}
	limit, e := rational.Add(number(1), greatest)
	b := number(1)
	for e == api.OK && compare(b, limit) <= 0 {
		b, e = rational.Mul(b, number(2))
	}
	return b, e
}

// isolate returns the roots of the first element of the chain, whose magnitudes are less than b, in ascending order.
func (c chain) isolate(b api.Rat) ([]api.Root, api.Errno) {
	var found []api.Root
	var search func(lo, hi place) api.Errno
	search = func(lo, hi place) api.Errno {
		between := lo.variations - hi.variations
		if hi.root {
			between--
		}
		switch {
		case between == 0:
			return api.OK
		case between == 1 && !lo.root && !hi.root:
			found = append(found, newRoot(c[0], lo.x, hi.x))
			return api.OK
		}
		m, e := middle(lo.x, hi.x)
		if e != api.OK {
			return e
		}
		mid, e := c.at(m)
		if e != api.OK {
			return e
		}
		if e := search(lo, mid); e != api.OK {
			return e
		}
		if mid.root {
			found = append(found, newRoot(c[0], m, m))
		}
		return search(mid, hi)
	}
	lo, hi, e := c.ends(negative(b), b)
	if e != api.OK {
		return nil, e
	}
	if e := search(lo, hi); e != api.OK {
		return nil, e
	}
	return found, api.OK
}

// newRoot returns a root in new memory.
func newRoot(poly []api.Rat, lo, hi api.Rat) api.Root {
	return api.Root{Poly: clonePoly(poly), Interval: api.Interval{Lo: clone(lo), Hi: clone(hi)}}
}
