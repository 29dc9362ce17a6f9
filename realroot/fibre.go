package realroot

import (
	"slices"

	"straightedge/api"
	"straightedge/unipoly"
)

// A list is a polynomial in y: its elements are polynomials in x, which stand for their values at a spot.

// fibre returns the number of different real roots of the list of valid polynomials.
func (s spot) fibre(list [][]api.Rat) (int, api.Errno) {
	first, e := s.reduceAll(list)
	if e != api.OK {
		return 0, e
	}
	if len(first) == 0 {
		return 0, api.ErrZero
	}
	if len(first) == 1 {
		return 0, api.OK
	}
	following, e := s.derive(first)
	lists := [][][]api.Rat{first}
	for e == api.OK && len(following) > 0 {
		lists = append(lists, following)
		following, e = s.rest(lists[len(lists)-2], following)
	}
	if e != api.OK {
		return 0, e
	}
	return s.countAll(lists)
}

// reduce passes a polynomial modulo that of the spot on, unless there is an error.
func (s spot) reduce(p []api.Rat, e api.Errno) ([]api.Rat, api.Errno) {
	if e != api.OK {
		return nil, e
	}
	_, rest, e := unipoly.DivMod(p, s.poly)
	return rest, e
}

// reduceAll returns the list with each element reduced, trimmed.
func (s spot) reduceAll(list [][]api.Rat) ([][]api.Rat, api.Errno) {
	result := make([][]api.Rat, len(list))
	for i := range list {
		var e api.Errno
		if result[i], e = s.reduce(list[i], api.OK); e != api.OK {
			return nil, e
		}
	}
	return s.trim(result)
}

// trim cuts off the elements at the end that are 0 at the spot.
func (s spot) trim(list [][]api.Rat) ([][]api.Rat, api.Errno) {
	for len(list) > 0 {
		sign, e := s.signOf(list[len(list)-1])
		if e != api.OK {
			return nil, e
		}
		if sign != 0 {
			break
		}
		list = list[:len(list)-1]
	}
	return list, api.OK
}

// derive returns the derivative of the list in y, trimmed.
func (s spot) derive(list [][]api.Rat) ([][]api.Rat, api.Errno) {
	result := make([][]api.Rat, len(list)-1)
	for i := range result {
		var e api.Errno
		if result[i], e = unipoly.Mul(list[i+1], []api.Rat{number(i + 1)}); e != api.OK {
			return nil, e
		}
	}
	// Nothing is cut off, but the sign that shows this may be too big.
	return s.trim(result)
}

// rest returns a negative remainder of f divided by g: a square times it, so that nothing is divided by the last element of g.
func (s spot) rest(f, g [][]api.Rat) ([][]api.Rat, api.Errno) {
	h, e := slices.Clone(f), api.OK
division:
	for len(h) >= len(g) {
		last := len(h) - 1
		shift := len(h) - len(g)
		for k := range last {
			var subtrahend []api.Rat
			if k >= shift {
				subtrahend = g[k-shift]
			}
			if h[k], e = s.eliminate(h[k], g[len(g)-1], h[last], subtrahend); e != api.OK {
				break division
			}
		}
		if h, e = s.trim(h[:last]); e != api.OK {
			break division
		}
	}
	for k := range h {
		if e == api.OK {
			h[k], e = unipoly.Sub(nil, h[k])
		}
	}
	if e != api.OK {
		return nil, e
	}
	return h, api.OK
}

// eliminate returns (a c - b d) c, with each product reduced.
func (s spot) eliminate(a, c, b, d []api.Rat) ([]api.Rat, api.Errno) {
	left, e := s.reduce(unipoly.Mul(a, c))
	if e != api.OK {
		return nil, e
	}
	right, e := s.reduce(unipoly.Mul(b, d))
	if e != api.OK {
		return nil, e
	}
	difference, e := unipoly.Sub(left, right)
	if e != api.OK {
		return nil, e
	}
	return s.reduce(unipoly.Mul(difference, c))
}

// countAll returns the number of the real roots that the Sturm sequence of lists counts.
func (s spot) countAll(lists [][][]api.Rat) (int, api.Errno) {
	left, right := make([]int, len(lists)), make([]int, len(lists))
	for i, list := range lists {
		sign, e := s.signOf(list[len(list)-1])
		if e != api.OK {
			return 0, e
		}
		right[i] = sign
		left[i] = signOnTheLeft(sign, len(list))
	}
	return variations(left) - variations(right), api.OK
}
