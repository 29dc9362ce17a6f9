package rational

import (
	"straightedge/api"
	"straightedge/integer"
)

// Simplest returns the fraction with the least denominator strictly between a and b.
func Simplest(a, b api.Rat) (api.Rat, api.Errno) {
	if order, e := Cmp(a, b); e != api.OK || order >= 0 {
		return api.Rat{}, api.ErrArg
	}
	if !a.Num.Neg {
		return expand(a, b)
	}
	if !b.Num.Neg && len(b.Num.Mag) > 0 {
		return Of(0, 1)
	}
	r, e := expand(negative(b), negative(a))
	if e != api.OK {
		return api.Rat{}, e
	}
	return negative(r), api.OK
}

// negative returns -r. It shares its memory with r.
func negative(r api.Rat) api.Rat {
	r.Num.Neg = !r.Num.Neg && len(r.Num.Mag) > 0
	return r
}

// expand returns the simplest number between two numbers, of which lo is not negative and less than hi. It follows their continued fractions as long as they agree; the denominator of hi becomes 0 if there is no upper end any more.
func expand(lo, hi api.Rat) (api.Rat, api.Errno) {
	// Only the last convergent can be too big: the others are convergents of the two numbers as well.
	var c calls
	one := integer.Of(1)
	last, now := api.Rat{Den: one}, api.Rat{Num: one}
expansion:
	for {
		quot, rest, _ := integer.DivMod(lo.Num, lo.Den)
		above := c.sub(hi.Num, c.mul(quot, hi.Den))
		if order, _ := integer.Cmp(hi.Den, above); order < 0 {
			// The integer after lo is less than hi.
			now = c.convergent(last, now, c.add(quot, one))
			break expansion
		}
		last, now = now, c.convergent(last, now, quot)
		lo, hi = api.Rat{Num: hi.Den, Den: above}, api.Rat{Num: lo.Den, Den: rest}
	}
	if c.failed != api.OK {
		return api.Rat{}, c.failed
	}
	return now, api.OK
}

// convergent returns what follows the last two convergents of a continued fraction, in lowest terms.
func (c *calls) convergent(last, now api.Rat, quot api.Int) api.Rat {
	num := c.add(c.mul(quot, now.Num), last.Num)
	den := c.add(c.mul(quot, now.Den), last.Den)
	return api.Rat{Num: num, Den: den}
}
