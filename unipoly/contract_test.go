package unipoly_test

import (
	"math/big"

	"straightedge/api"
	"straightedge/rational"
	"straightedge/unipoly"
)

// This file restates the chapter's contracts for numbers of any size, with the limit of each operation that the chapter lists.

// stop is the panic of a contract that ends with an error.
type stop struct{ because api.Errno }

// limited computes numbers, and stops where rational would return ErrTooBig.
type limited struct{}

func (limited) need(numbers ...*big.Int) {
	for _, x := range numbers {
		if x.BitLen() > maxBits {
			panic(stop{api.ErrTooBig})
		}
	}
}

func times(x, y *big.Int) *big.Int { return new(big.Int).Mul(x, y) }

func (c limited) add(x, y *big.Rat) *big.Rat {
	left, right := times(x.Num(), y.Denom()), times(y.Num(), x.Denom())
	c.need(left, right, new(big.Int).Add(left, right), times(x.Denom(), y.Denom()))
	return new(big.Rat).Add(x, y)
}

func (c limited) sub(x, y *big.Rat) *big.Rat { return c.add(x, new(big.Rat).Neg(y)) }

func (c limited) mul(x, y *big.Rat) *big.Rat {
	c.need(times(x.Num(), y.Num()), times(x.Denom(), y.Denom()))
	return new(big.Rat).Mul(x, y)
}

func (c limited) div(x, y *big.Rat) *big.Rat {
	c.need(times(x.Num(), y.Denom()), times(x.Denom(), y.Num()))
	return new(big.Rat).Quo(x, y)
}

func at(p list, i int) *big.Rat {
	if i < 0 || i >= len(p) {
		return new(big.Rat)
	}
	return p[i]
}

func (c limited) sum(p, q list) list {
	var l list
	for i := range max(len(p), len(q)) {
		l = append(l, c.add(at(p, i), at(q, i)))
	}
	return trim(l)
}

func (c limited) difference(p, q list) list {
	var l list
	for i := range max(len(p), len(q)) {
		l = append(l, c.sub(at(p, i), at(q, i)))
	}
	return trim(l)
}

func (c limited) product(p, q list) list {
	if len(p) == 0 || len(q) == 0 {
		return nil
	}
	if len(p)+len(q)-2 > api.MaxDegree {
		panic(stop{api.ErrTooBig})
	}
	var l list
	for k := range len(p) + len(q) - 1 {
		x := new(big.Rat)
		for i := range p {
			x = c.add(x, c.mul(p[i], at(q, k-i)))
		}
		l = append(l, x)
	}
	return l
}

func (c limited) divide(p, q list) (quot, rest list) {
	if len(q) == 0 {
		panic(stop{api.ErrZero})
	}
	d := len(q) - 1
	if len(p)-1 < d {
		return nil, p
	}
	r := append(list{}, p...)
	quot = make(list, len(p)-d)
	for k := len(p) - 1 - d; k >= 0; k-- {
		quot[k] = c.div(r[k+d], q[d])
		for i := 0; i < d; i++ {
			r[k+i] = c.sub(r[k+i], c.mul(quot[k], q[i]))
		}
	}
	return quot, trim(r[:d])
}

func (c limited) monic(p list) list {
	var l list
	for _, x := range p {
		l = append(l, c.div(x, p[len(p)-1]))
	}
	return l
}

func (c limited) divisor(p, q list) list {
	f, g := p, q
	for len(g) > 0 {
		_, rest := c.divide(f, g)
		f, g = g, c.monic(rest)
	}
	return c.monic(f)
}

func (c limited) derivative(p list) list {
	var l list
	for i := 0; i+1 < len(p); i++ {
		l = append(l, c.mul(big.NewRat(int64(i+1), 1), p[i+1]))
	}
	return l
}

func (c limited) value(p list, x *big.Rat) *big.Rat {
	if len(p) == 0 {
		return new(big.Rat)
	}
	v := p[len(p)-1]
	for i := len(p) - 2; i >= 0; i-- {
		v = c.add(c.mul(v, x), p[i])
	}
	return v
}

func (c limited) squarefree(p list) list {
	if len(p) == 0 {
		panic(stop{api.ErrZero})
	}
	quot, _ := c.divide(p, c.divisor(p, c.derivative(p)))
	return c.monic(quot)
}

func (c limited) power(x *big.Rat, n int) *big.Rat {
	if n == 0 {
		return big.NewRat(1, 1)
	}
	v := x
	for range n - 1 {
		v = c.mul(v, x)
	}
	return v
}

func (c limited) resultant(p, q list) *big.Rat {
	if len(p) == 0 || len(q) == 0 {
		return new(big.Rat)
	}
	m, n := len(p)-1, len(q)-1
	if n == 0 {
		return c.power(q[0], m)
	}
	var v *big.Rat
	if m < n {
		v = c.resultant(q, p)
	} else {
		_, r := c.divide(p, q)
		if len(r) == 0 {
			return new(big.Rat)
		}
		v = c.mul(c.power(q[n], m-(len(r)-1)), c.resultant(q, r))
	}
	if m*n%2 == 1 {
		v = new(big.Rat).Neg(v)
	}
	return v
}

func (c limited) compose(p, q list) list {
	if len(p) == 0 {
		return nil
	}
	if len(q) > 0 && (len(p)-1)*(len(q)-1) > api.MaxDegree {
		panic(stop{api.ErrTooBig})
	}
	f := p[len(p)-1:]
	for i := len(p) - 2; i >= 0; i-- {
		f = c.sum(c.product(f, q), trim(list{p[i]}))
	}
	return f
}

// function is a function of the chapter: how to call it, and its contract. Its results are lists of numbers; a number is a list of one.
type function struct {
	name string
	two  bool // it has a second polynomial
	call func(p, q []api.Rat) ([][]api.Rat, api.Errno)
	want func(c limited, p, q list) []list
}

// point returns the number at which Eval is called: the first coefficient.
func point(q list) *big.Rat { return new(big.Rat).Set(at(q, 0)) }

// functions returns all functions whose results are numbers or polynomials.
func functions() []function {
	pair := func(f func(p, q []api.Rat) ([]api.Rat, api.Errno)) func(p, q []api.Rat) ([][]api.Rat, api.Errno) {
		return func(p, q []api.Rat) ([][]api.Rat, api.Errno) {
			r, e := f(p, q)
			return [][]api.Rat{r}, e
		}
	}
	single := func(f func(p []api.Rat) ([]api.Rat, api.Errno)) func(p, q []api.Rat) ([][]api.Rat, api.Errno) {
		return pair(func(p, _ []api.Rat) ([]api.Rat, api.Errno) { return f(p) })
	}
	number := func(f func(p, q []api.Rat) (api.Rat, api.Errno)) func(p, q []api.Rat) ([][]api.Rat, api.Errno) {
		return func(p, q []api.Rat) ([][]api.Rat, api.Errno) {
			r, e := f(p, q)
			return [][]api.Rat{{r}}, e
		}
	}
	return []function{
		{"P3.2: Add", true, pair(unipoly.Add), func(c limited, p, q list) []list { return []list{c.sum(p, q)} }},
		{"P3.2: Sub", true, pair(unipoly.Sub), func(c limited, p, q list) []list { return []list{c.difference(p, q)} }},
		{"P3.3: Mul", true, pair(unipoly.Mul), func(c limited, p, q list) []list { return []list{c.product(p, q)} }},
		{"P3.4: DivMod", true, func(p, q []api.Rat) ([][]api.Rat, api.Errno) {
			quot, rest, e := unipoly.DivMod(p, q)
			return [][]api.Rat{quot, rest}, e
		}, func(c limited, p, q list) []list {
			quot, rest := c.divide(p, q)
			return []list{quot, rest}
		}},
		{"P3.5: GCD", true, pair(unipoly.GCD), func(c limited, p, q list) []list { return []list{c.divisor(p, q)} }},
		{"P3.6: Derivative", false, single(unipoly.Derivative), func(c limited, p, _ list) []list { return []list{c.derivative(p)} }},
		{"P3.7: Eval", false, number(func(p, q []api.Rat) (api.Rat, api.Errno) {
			x, _ := rational.Of(0, 1)
			if len(q) > 0 {
				x = q[0]
			}
			return unipoly.Eval(p, x)
		}), func(c limited, p, q list) []list { return []list{{c.value(p, point(q))}} }},
		{"P3.8: Squarefree", false, single(unipoly.Squarefree), func(c limited, p, _ list) []list { return []list{c.squarefree(p)} }},
		{"P3.9: Resultant", true, number(unipoly.Resultant), func(c limited, p, q list) []list { return []list{{c.resultant(p, q)}} }},
		{"P3.10: Compose", true, pair(unipoly.Compose), func(c limited, p, q list) []list { return []list{c.compose(p, q)} }},
	}
}

// expect returns the results that a contract states, or its error.
func expect(f function, p, q list) (results []list, e api.Errno) {
	defer func() {
		if cause := recover(); cause != nil {
			e = cause.(stop).because
		}
	}()
	return f.want(limited{}, p, q), api.OK
}
