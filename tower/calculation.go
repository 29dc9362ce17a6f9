package tower

import (
	"math/bits"
	"slices"

	"straightedge/api"
	"straightedge/integer"
	"straightedge/rational"
)

// operation is a function of package rational.
type operation func(a, b api.Rat) (api.Rat, api.Errno)

// calculation computes with elements of a well-shaped tower. After an error, its results mean nothing, and no more operations are executed.
type calculation struct {
	radicands [][]api.Rat
	failed    api.Errno                                // the first error
	call      func(do operation, a, b api.Rat) api.Rat // executes an operation
}

func newCalculation(t api.Tower) *calculation {
	c := &calculation{radicands: t.Radicands}
	c.call = func(do operation, a, b api.Rat) api.Rat {
		if c.failed != api.OK {
			return api.Rat{}
		}
		result, e := do(a, b)
		c.fail(e)
		return result
	}
	return c
}

// calculate returns the result of a calculation with these elements, or its error.
func calculate[T any](t api.Tower, compute func(c *calculation) T, elements ...[]api.Rat) (T, api.Errno) {
	var none T
	if !isShaped(t) {
		return none, api.ErrArg
	}
	for _, x := range elements {
		if !isElement(x, len(t.Radicands)) {
			return none, api.ErrArg
		}
	}
	c := newCalculation(t)
	result := compute(c)
	if c.failed != api.OK {
		return none, c.failed
	}
	return result, api.OK
}

// fail keeps an error, unless there is an earlier one.
func (c *calculation) fail(e api.Errno) {
	if c.failed == api.OK {
		c.failed = e
	}
}

// keep returns the result of an operation on integers, and keeps its error.
func (c *calculation) keep(n api.Int, e api.Errno) api.Int {
	c.fail(e)
	return n
}

// radicand returns the radicand of the level above that of elements of n numbers, as one of them.
func (c *calculation) radicand(n int) []api.Rat {
	return lift(c.radicands[bits.TrailingZeros(uint(n))], n)
}

// each executes an operation on the corresponding numbers of two elements.
func (c *calculation) each(do operation, x, y []api.Rat) []api.Rat {
	x, y = level(x, y)
	result := make([]api.Rat, len(x))
	for i := range x {
		result[i] = c.call(do, x[i], y[i])
	}
	return result
}

// The following methods take elements of one level. They leave out operations with zeros, none of which is too big; so sum and difference may return an argument itself.

func (c *calculation) sum(x, y []api.Rat) []api.Rat {
	switch {
	case isZero(x):
		return y
	case isZero(y):
		return x
	}
	return c.each(rational.Add, x, y)
}

func (c *calculation) difference(x, y []api.Rat) []api.Rat {
	if isZero(y) {
		return x
	}
	return c.each(rational.Sub, x, y)
}

func (c *calculation) product(x, y []api.Rat) []api.Rat {
	if isZero(x) || isZero(y) {
		return zeros(len(x))
	}
	if len(x) == 1 {
		return []api.Rat{c.call(rational.Mul, x[0], y[0])}
	}
	xFirst, xSecond := halves(x)
	yFirst, ySecond := halves(y)
	p := c.product(xFirst, yFirst)
	q := c.product(xSecond, ySecond)
	first := c.sum(p, c.product(q, c.radicand(len(q))))
	u := c.product(xFirst, ySecond)
	v := c.product(xSecond, yFirst)
	return slices.Concat(first, c.sum(u, v))
}

// norm returns the product of the element with the halves a and b and its conjugate, with the halves a and -b, which is an element of the level below.
func (c *calculation) norm(a, b []api.Rat) []api.Rat {
	square := c.product(a, a)
	other := c.product(b, b)
	return c.difference(square, c.product(other, c.radicand(len(b))))
}

func (c *calculation) sign(x []api.Rat) int {
	if len(x) == 1 {
		return rational.Sign(x[0])
	}
	a, b := halves(x)
	m := c.sign(a)
	n := c.sign(b)
	switch {
	case n == 0 || n == m:
		return m
	case m == 0:
		return n
	}
	// The half of the greater absolute value decides.
	return m * c.sign(c.norm(a, b))
}

// inverse returns the inverse of an element whose value is not 0.
func (c *calculation) inverse(x []api.Rat) []api.Rat {
	if len(x) == 1 {
		return []api.Rat{c.call(rational.Div, whole(integer.Of(1)), x[0])}
	}
	a, b := halves(x)
	norm := c.norm(a, b)
	if c.sign(norm) == 0 {
		// The conjugate is 0, so that the value is that of a + a.
		return lift(c.inverse(c.sum(a, a)), len(x))
	}
	w := c.inverse(norm)
	first := c.product(a, w)
	second := c.product(b, w)
	return slices.Concat(first, c.each(rational.Sub, zeros(len(b)), second))
}
