package tower

import (
	"slices"

	"straightedge/api"
	"straightedge/integer"
	"straightedge/rational"
)

// scaled returns x times 2^places, for places from -maxBits to maxBits.
func (c *calculation) scaled(x []api.Rat, places int) []api.Rat {
	power, _ := integer.Shift(integer.Of(1), max(places, -places))
	factor := whole(power)
	if places < 0 {
		factor = api.Rat{Num: integer.Of(1), Den: power}
	}
	result := make([]api.Rat, len(x))
	for i, a := range x {
		result[i] = c.call(rational.Mul, a, factor)
	}
	return result
}

// floor returns the greatest integer that is not greater than y, which is not of level 0.
func (c *calculation) floor(y []api.Rat) api.Int {
	hi := c.bound(y)
	lo := c.keep(integer.Sub(integer.Of(0), hi))
	for c.failed == api.OK {
		// The width is a number like any other: that of the widest range is too big.
		width := c.keep(integer.Sub(hi, lo))
		if order, _ := integer.Cmp(width, integer.Of(1)); order != 1 {
			break
		}
		sum := c.keep(integer.Add(lo, hi))
		middle := c.keep(integer.Shift(sum, -1))
		if c.against(y, middle) == -1 {
			hi = middle
		} else {
			lo = middle
		}
	}
	return lo
}

// bound returns the least power of two that is greater than y, and whose negative is not greater than y.
func (c *calculation) bound(y []api.Rat) api.Int {
	power := integer.Of(1)
	for c.failed == api.OK {
		negative := c.keep(integer.Sub(integer.Of(0), power))
		if c.against(y, power) == -1 && c.against(y, negative) != -1 {
			break
		}
		power = c.keep(integer.Shift(power, 1))
	}
	return power
}

// against returns the order of y and an integer.
func (c *calculation) against(y []api.Rat, n api.Int) int {
	// The other numbers of n, when it is lifted, are 0.
	rest := slices.Clone(y)
	rest[0] = c.call(rational.Sub, y[0], whole(n))
	return c.sign(rest)
}
