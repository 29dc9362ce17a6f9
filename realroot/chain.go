package realroot

import (
	"straightedge/api"
	"straightedge/rational"
	"straightedge/unipoly"
)

// chain is a Sturm sequence.
type chain [][]api.Rat

// sturm returns the Sturm sequence of a valid polynomial that is not zero; it shares the memory of p.
func sturm(p []api.Rat) (chain, api.Errno) {
	c := chain{p}
	following, e := unipoly.Derivative(p)
	for e == api.OK && len(following) > 0 {
		c = append(c, following)
		following, e = next(c[len(c)-2], following)
	}
	if e != api.OK {
		return nil, e
	}
	return c, api.OK
}

// next returns the element of a Sturm sequence after f and g: the zero polynomial if g is the last one.
func next(f, g []api.Rat) ([]api.Rat, api.Errno) {
	_, rest, e := unipoly.DivMod(f, g)
	if e != api.OK || len(rest) == 0 {
		return nil, e
	}
	divisor := negative(size(rest[len(rest)-1]))
	for i := range rest {
		if rest[i], e = rational.Div(rest[i], divisor); e != api.OK {
			return nil, e
		}
	}
	return rest, api.OK
}

// counter returns the Sturm sequence that counts the different roots of p. Its first element has these roots, each once.
func counter(p []api.Rat) (chain, api.Errno) {
	q, e := unipoly.Squarefree(p)
	if e != api.OK {
		return nil, e
	}
	return sturm(q)
}

// place is a number, with the number of the variations of a chain there, and whether it is a root of the first element.
type place struct {
	x          api.Rat
	variations int
	root       bool
}

// at evaluates the chain.
func (c chain) at(x api.Rat) (place, api.Errno) {
	signs := make([]int, len(c))
	for i, p := range c {
		value, e := unipoly.Eval(p, x)
		if e != api.OK {
			return place{}, e
		}
		signs[i] = rational.Sign(value)
	}
	return place{x: x, variations: variations(signs), root: signs[0] == 0}, api.OK
}

// ends evaluates the chain at the ends of an interval.
func (c chain) ends(x, y api.Rat) (lo, hi place, e api.Errno) {
	if lo, e = c.at(x); e != api.OK {
		return place{}, place{}, e
	}
	if hi, e = c.at(y); e != api.OK {
		return place{}, place{}, e
	}
	return lo, hi, api.OK
}

// count returns the number of roots greater than lo and at most hi.
func (c chain) count(lo, hi api.Rat) (int, api.Errno) {
	left, right, e := c.ends(lo, hi)
	return left.variations - right.variations, e
}

// all returns the number of all roots.
func (c chain) all() int {
	left, right := make([]int, len(c)), make([]int, len(c))
	for i, p := range c {
		right[i] = rational.Sign(p[len(p)-1])
		left[i] = signOnTheLeft(right[i], len(p))
	}
	return variations(left) - variations(right)
}

// signOnTheLeft returns the sign, for arguments that are small enough, of a polynomial with that number of coefficients and that sign of the leading one.
func signOnTheLeft(leading, coefficients int) int {
	if coefficients%2 == 0 {
		return -leading
	}
	return leading
}

// variations returns the number of pairs of successive different signs, zeros aside.
func variations(signs []int) int {
	count, last := 0, 0
	for _, s := range signs {
		if s*last < 0 {
			count++
		}
		if s != 0 {
			last = s
		}
	}
	return count
}
