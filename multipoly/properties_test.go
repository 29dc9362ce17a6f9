package multipoly_test

import (
	"math/rand"
	"testing"

	"straightedge/api"
	"straightedge/modular"
	"straightedge/multipoly"
	"straightedge/rational"
)

// calls makes calls, and keeps whether one of them had an error.
type calls struct{ failed bool }

func (c *calls) keep(p []api.Term, e api.Errno) []api.Term {
	c.failed = c.failed || e != api.OK
	return p
}

func (c *calls) add(p, q []api.Term) []api.Term { return c.keep(multipoly.Add(p, q)) }
func (c *calls) sub(p, q []api.Term) []api.Term { return c.keep(multipoly.Sub(p, q)) }
func (c *calls) mul(p, q []api.Term) []api.Term { return c.keep(multipoly.Mul(p, q)) }

// TestRing checks P8.11 without the values.
func TestRing(t *testing.T) {
	source := rand.New(rand.NewSource(85))
	tried := 0
	for range 1000 {
		s := drawShape(source)
		p, q, r := s.draw(source), s.draw(source), drawShape(source).draw(source)
		var c calls
		laws := map[string][2][]api.Term{
			"p + q = q + p":             {c.add(p, q), c.add(q, p)},
			"(p + q) + r = p + (q + r)": {c.add(c.add(p, q), r), c.add(p, c.add(q, r))},
			"p q = q p":                 {c.mul(p, q), c.mul(q, p)},
			"(p q) r = p (q r)":         {c.mul(c.mul(p, q), r), c.mul(p, c.mul(q, r))},
			"p (q + r) = p q + p r":     {c.mul(p, c.add(q, r)), c.add(c.mul(p, q), c.mul(p, r))},
			"(p + q) - q = p":           {c.sub(c.add(p, q), q), p},
			"(p - q) + q = p":           {c.add(c.sub(p, q), q), p},
			"p - p = 0":                 {c.sub(p, p), nil},
			"p + 0 = p":                 {c.add(p, nil), p},
			"1 p = p":                   {c.mul(multipoly.Const(1), p), p},
			"0 p = 0":                   {c.mul(nil, p), nil},
			"p - q = p + (-1) q":        {c.sub(p, q), c.add(p, c.mul(multipoly.Const(-1), q))},
		}
		if c.failed {
			continue
		}
		tried++
		for law, sides := range laws {
			if !equal(sides[0], sides[1]) {
				t.Error("P8.11:", law, "fails for", short(p), ";", short(q), ";", short(r))
			}
		}
	}
	if tried < 500 {
		t.Error("too few polynomials without errors:", tried)
	}
}

// TestHomomorphisms checks P8.11 for the values.
func TestHomomorphisms(t *testing.T) {
	source := rand.New(rand.NewSource(86))
	tried := 0
	for range 1500 {
		s := drawShape(source)
		p, q := s.draw(source), s.draw(source)
		at, residues := drawPlace(source)
		var c calls
		eval := func(p []api.Term) api.Rat {
			v, e := multipoly.Eval(p, at)
			c.failed = c.failed || e != api.OK
			return v
		}
		sum, difference, product := c.add(p, q), c.sub(p, q), c.mul(p, q)
		x, y := eval(p), eval(q)
		values := []api.Rat{eval(sum), eval(difference), eval(product)}
		if c.failed {
			continue
		}
		tried++
		for i, do := range []func(a, b api.Rat) (api.Rat, api.Errno){rational.Add, rational.Sub, rational.Mul} {
			if want, e := do(x, y); e == api.OK && !equalRat(values[i], want) {
				t.Error("P8.11: Eval: operation", i, "fails for", short(p), "and", short(q))
			}
		}
		prime := []int{3, 5, 101, 1000003, api.MaxPrime}[source.Intn(5)]
		evalMod := func(p []api.Term) int { return must[int](t)(multipoly.EvalMod(p, residues, prime)) }
		a, b := evalMod(p), evalMod(q)
		want := []int{(a + b) % prime, (a - b + prime) % prime, must[int](t)(modular.Mul(a, b, prime))}
		for i, r := range [][]api.Term{sum, difference, product} {
			if n := evalMod(r); n != want[i] {
				t.Error("P8.11: EvalMod: operation", i, "fails for", short(p), "and", short(q))
			}
		}
	}
	if tried < 500 {
		t.Error("too few polynomials without errors:", tried)
	}
}

// TestEvalModIsEval checks P8.11 where all numbers have residues.
func TestEvalModIsEval(t *testing.T) {
	source := rand.New(rand.NewSource(87))
	for range 500 {
		p := drawShape(source).draw(source)
		at, residues := make([]api.Rat, api.MaxVars), make([]int, api.MaxVars)
		prime := []int{101, 1000003, api.MaxPrime}[source.Intn(3)]
		for v := range at {
			at[v] = drawRat(source, 5)
			residues[v] = must[int](t)(modular.Rat(at[v], prime))
		}
		value, e := multipoly.Eval(p, at)
		if e != api.OK {
			continue
		}
		want := must[int](t)(modular.Rat(value, prime))
		if n := must[int](t)(multipoly.EvalMod(p, residues, prime)); n != want {
			t.Error("P8.11: EvalMod of", short(p), "is", n, "and not", want, "as Eval modulo", prime)
		}
	}
}

// TestDivision checks P8.12.
func TestDivision(t *testing.T) {
	source := rand.New(rand.NewSource(88))
	tried := 0
	for range 1500 {
		s := drawShape(source)
		p, q := s.draw(source), s.draw(source)
		v := s.vars[0]
		m := must[int](t)(multipoly.Degree(q, v))
		a, r, k, e := multipoly.PseudoDiv(p, q, v)
		if m < 1 || e != api.OK {
			continue
		}
		if n := must[int](t)(multipoly.Degree(r, v)); n >= m {
			t.Error("P8.12: the remainder", short(r), "has the degree", n, "and the divisor", m)
		}
		var c calls
		left := p
		leading := c.keep(multipoly.Coeff(q, v, m))
		for range k {
			left = c.mul(leading, left)
		}
		right := c.add(c.mul(a, q), r)
		if c.failed {
			continue
		}
		if k > 0 {
			tried++
		}
		if !equal(left, right) {
			t.Error("P8.12: c^k p is not a q + r for", short(p), "by", short(q), "in", v)
		}
	}
	if tried < 300 {
		t.Error("too few divisions:", tried)
	}
}

// TestCoefficients checks that a polynomial is the sum of its coefficients times the powers.
func TestCoefficients(t *testing.T) {
	source := rand.New(rand.NewSource(89))
	for range 300 {
		s := drawShape(source)
		p := s.draw(source)
		v := s.vars[source.Intn(len(s.vars))]
		var c calls
		var total []api.Term
		power := multipoly.Const(1)
		x := c.keep(multipoly.Var(v))
		for n := range must[int](t)(multipoly.Degree(p, v)) + 1 {
			coef := c.keep(multipoly.Coeff(p, v, n))
			if must[int](t)(multipoly.Degree(coef, v)) > 0 {
				t.Error("P8.4: the coefficient", short(coef), "contains the variable", v)
			}
			total = c.add(total, c.mul(coef, power))
			power = c.mul(power, x)
		}
		if c.failed || !equal(total, p) {
			t.Error("P8.4: the coefficients of", short(p), "in", v, "make", short(total))
		}
	}
}

// TestPrimitive checks that the primitive polynomial has a multiple that is p, and is that of each multiple.
func TestPrimitive(t *testing.T) {
	source := rand.New(rand.NewSource(90))
	for range 300 {
		p := drawShape(source).draw(source)
		factor := multipoly.Const(source.Intn(200) - 100)
		primitive := must[[]api.Term](t)(multipoly.Primitive(p))
		again := must[[]api.Term](t)(multipoly.Primitive(must[[]api.Term](t)(multipoly.Mul(factor, p))))
		if len(factor) > 0 && !equal(primitive, again) {
			t.Error("P8.8:", short(p), "and its multiple have", short(primitive), "and", short(again))
		}
		if n := len(primitive); n != len(p) || n > 0 && primitive[n-1].Coef.Neg {
			t.Error("P8.8: Primitive of", short(p), "is", short(primitive))
		}
	}
}

// TestTexts checks P8.13.
func TestTexts(t *testing.T) {
	source := rand.New(rand.NewSource(91))
	known := map[string][]api.Term{}
	for range 20000 {
		s := drawShape(source)
		s.terms, s.bits = source.Intn(3), 1+source.Intn(3)
		p := s.draw(source)
		text := must[string](t)(multipoly.Text(p))
		if q, e := multipoly.Parse(text); e != api.OK || !equal(p, q) {
			t.Errorf("P8.13: Parse(%q): error %d", text, e)
		}
		if q, isKnown := known[text]; isKnown && !equal(p, q) {
			t.Errorf("P8.13: two polynomials have the text %q", text)
		}
		known[text] = p
	}
}
