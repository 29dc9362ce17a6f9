package rational

import (
	"straightedge/api"
	"straightedge/integer"
)

// calls makes calls of package integer, and keeps the first error of them.
type calls struct{ failed api.Errno }

// keep keeps an error, unless there is an earlier one.
func (c *calls) keep(n api.Int, e api.Errno) api.Int {
	if c.failed == api.OK {
		c.failed = e
	}
	return n
}

func (c *calls) add(a, b api.Int) api.Int { return c.keep(integer.Add(a, b)) }

func (c *calls) sub(a, b api.Int) api.Int { return c.keep(integer.Sub(a, b)) }

func (c *calls) mul(a, b api.Int) api.Int { return c.keep(integer.Mul(a, b)) }

// Add returns a + b.
func Add(a, b api.Rat) (api.Rat, api.Errno) {
	return combine(a, b, func(c *calls) (api.Int, api.Int) {
		num := c.add(c.mul(a.Num, b.Den), c.mul(b.Num, a.Den))
		return num, c.mul(a.Den, b.Den)
	})
}

// Sub returns a - b.
func Sub(a, b api.Rat) (api.Rat, api.Errno) {
	return combine(a, b, func(c *calls) (api.Int, api.Int) {
		num := c.sub(c.mul(a.Num, b.Den), c.mul(b.Num, a.Den))
		return num, c.mul(a.Den, b.Den)
	})
}

// Mul returns a * b.
func Mul(a, b api.Rat) (api.Rat, api.Errno) {
	return combine(a, b, func(c *calls) (api.Int, api.Int) {
		return c.mul(a.Num, b.Num), c.mul(a.Den, b.Den)
	})
}

// Div returns a / b.
func Div(a, b api.Rat) (api.Rat, api.Errno) {
	return combine(a, b, func(c *calls) (api.Int, api.Int) {
		// If b is 0, these products are a.Num and 0, which Make refuses.
		return c.mul(a.Num, b.Den), c.mul(a.Den, b.Num)
	})
}

// combine returns the number whose numerator and denominator are computed from a and b by the terms.
func combine(a, b api.Rat, terms func(c *calls) (num, den api.Int)) (api.Rat, api.Errno) {
	if !allValid(a, b) {
		return api.Rat{}, api.ErrArg
	}
	var c calls
	num, den := terms(&c)
	if c.failed != api.OK {
		return api.Rat{}, c.failed
	}
	return Make(num, den)
}
