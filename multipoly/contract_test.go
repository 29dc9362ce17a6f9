package multipoly_test

import (
	"math/big"
	"slices"
	"testing"

	"straightedge/api"
	"straightedge/integer"
	"straightedge/modular"
	"straightedge/multipoly"
)

// This file restates the chapter's contracts for numbers of any size, with the limit of each operation that the chapter lists.

// stop is the panic of a contract that ends with an error.
type stop struct{ because api.Errno }

// outcome returns what a contract returns, or the error that it ends with.
func outcome[T any](contract func() T) (result T, e api.Errno) {
	defer func() {
		if cause := recover(); cause != nil {
			e = cause.(stop).because
		}
	}()
	return contract(), api.OK
}

// need ends a contract if an integer is too big.
func need(l ...*big.Int) {
	for _, x := range l {
		if x.BitLen() > maxBits {
			panic(stop{api.ErrTooBig})
		}
	}
}

// limited returns a polynomial, unless it has too many terms.
func limited(m model) []api.Term {
	if len(m) > api.MaxTerms {
		panic(stop{api.ErrTooBig})
	}
	return fromModel(m)
}

func times(x, y *big.Int) *big.Int { return new(big.Int).Mul(x, y) }

// sum is Add for the sign 1, and Sub for -1.
func sum(p, q []api.Term, sign int64) []api.Term {
	m := toModel(p)
	for _, term := range q {
		m.add(toPowers(term.Exps), times(big.NewInt(sign), toInt(term.Coef)))
	}
	for _, x := range m {
		need(x)
	}
	return limited(m)
}

func product(p, q []api.Term) []api.Term {
	m := model{}
	for _, a := range p {
		for _, b := range q {
			at := toPowers(a.Exps)
			for v, exponent := range b.Exps {
				at[v] += exponent
			}
			if slices.Max(at[:]) > api.MaxExponent {
				panic(stop{api.ErrTooBig})
			}
			x := times(toInt(a.Coef), toInt(b.Coef))
			need(x)
			m.add(at, x)
			if total := m[at]; total != nil {
				need(total)
			}
		}
	}
	return limited(m)
}

func degree(p []api.Term, v int) int {
	n := -1
	for at := range toModel(p) {
		n = max(n, at[v])
	}
	return n
}

// coefficient returns the coefficient of a power of v, times another power of v.
func coefficient(p []api.Term, v, n, to int) []api.Term {
	m := model{}
	for at, x := range toModel(p) {
		if at[v] == n {
			at[v] = to
			m.add(at, x)
		}
	}
	return fromModel(m)
}

// division is what PseudoDiv returns.
type division struct {
	a, r []api.Term
	k    int
}

func divide(p, q []api.Term, v int) division {
	if len(q) == 0 {
		panic(stop{api.ErrZero})
	}
	m := degree(q, v)
	if m == 0 {
		panic(stop{api.ErrArg})
	}
	c := coefficient(q, v, m, 0)
	d := division{r: p}
	for n := degree(d.r, v); n >= m; n = degree(d.r, v) {
		t := coefficient(d.r, v, n, n-m)
		d.a = sum(product(c, d.a), t, 1)
		d.r = sum(product(c, d.r), product(t, q), -1)
		d.k++
	}
	return d
}

// ratProduct is rational.Mul.
func ratProduct(x, y *big.Rat) *big.Rat {
	need(times(x.Num(), y.Num()), times(x.Denom(), y.Denom()))
	return new(big.Rat).Mul(x, y)
}

// ratSum is rational.Add.
func ratSum(x, y *big.Rat) *big.Rat {
	left, right := times(x.Num(), y.Denom()), times(y.Num(), x.Denom())
	need(left, right, new(big.Int).Add(left, right), times(x.Denom(), y.Denom()))
	return new(big.Rat).Add(x, y)
}

func value(p []api.Term, at []api.Rat) api.Rat {
	total := new(big.Rat)
	for _, term := range p {
		x := new(big.Rat).SetInt(toInt(term.Coef))
		for v, exponent := range term.Exps {
			for range exponent {
				x = ratProduct(x, new(big.Rat).SetFrac(toInt(at[v].Num), toInt(at[v].Den)))
			}
		}
		total = ratSum(total, x)
	}
	return fromRat(total)
}

func residue(p []api.Term, at []int, prime int) int {
	total := new(big.Int)
	for _, term := range p {
		x := toInt(term.Coef)
		for v, exponent := range term.Exps {
			x.Mul(x, new(big.Int).Exp(big.NewInt(int64(at[v])), big.NewInt(int64(exponent)), nil))
		}
		total.Add(total, x)
	}
	return int(total.Mod(total, big.NewInt(int64(prime))).Int64())
}

func primitive(p []api.Term) []api.Term {
	divisor := new(big.Int)
	for _, term := range p {
		divisor.GCD(nil, nil, divisor, new(big.Int).Abs(toInt(term.Coef)))
	}
	if len(p) > 0 && p[len(p)-1].Coef.Neg {
		divisor.Neg(divisor)
	}
	m := model{}
	for _, term := range p {
		m.add(toPowers(term.Exps), new(big.Int).Quo(toInt(term.Coef), divisor))
	}
	return fromModel(m)
}

// checkResult checks a polynomial against a contract, and returns the error.
func checkResult(t *testing.T, what string, p []api.Term, e api.Errno, contract func() []api.Term, arguments ...[]api.Term) api.Errno {
	t.Helper()
	want, wantError := outcome(contract)
	if e != wantError || !equal(p, want) {
		t.Error(what, "is", short(p), "with error", e, "and not", short(want), wantError, "for:")
		for _, q := range arguments {
			t.Log(short(q))
		}
	}
	if e := multipoly.Check(p, api.MaxVars); e != api.OK {
		t.Error(what, "is not valid:", short(p))
	}
	return e
}

func checkAdd(t *testing.T, p, q []api.Term) api.Errno {
	t.Helper()
	got, e := multipoly.Add(p, q)
	return checkResult(t, "P8.2: Add", got, e, func() []api.Term { return sum(p, q, 1) }, p, q)
}

func checkSub(t *testing.T, p, q []api.Term) api.Errno {
	t.Helper()
	got, e := multipoly.Sub(p, q)
	return checkResult(t, "P8.2: Sub", got, e, func() []api.Term { return sum(p, q, -1) }, p, q)
}

func checkMul(t *testing.T, p, q []api.Term) api.Errno {
	t.Helper()
	got, e := multipoly.Mul(p, q)
	return checkResult(t, "P8.3: Mul", got, e, func() []api.Term { return product(p, q) }, p, q)
}

func checkCoeff(t *testing.T, p []api.Term, v, n int) {
	t.Helper()
	got, e := multipoly.Degree(p, v)
	if want := degree(p, v); got != want || e != api.OK {
		t.Error("P8.4: Degree", got, "error", e, "and not", want, "for", short(p), "in", v)
	}
	c, e := multipoly.Coeff(p, v, n)
	checkResult(t, "P8.4: Coeff", c, e, func() []api.Term { return coefficient(p, v, n, 0) }, p)
}

func checkDiv(t *testing.T, p, q []api.Term, v int) api.Errno {
	t.Helper()
	a, r, k, e := multipoly.PseudoDiv(p, q, v)
	want, wantError := outcome(func() division { return divide(p, q, v) })
	if e != wantError || k != want.k || !equal(a, want.a) || !equal(r, want.r) {
		t.Error("P8.5: PseudoDiv of", short(p), "by", short(q), "in", v, "is", short(a), ";", short(r), k, "error", e, "and not", short(want.a), ";", short(want.r), want.k, wantError)
	}
	return e
}

func checkEval(t *testing.T, p []api.Term, at []api.Rat) api.Errno {
	t.Helper()
	got, e := multipoly.Eval(p, at)
	want, wantError := outcome(func() api.Rat { return value(p, at) })
	if e != wantError || !equalRat(got, want) {
		t.Error("P8.6: Eval of", short(p), "is", numberText(got), "error", e, "and not", numberText(want), wantError)
	}
	return e
}

func checkEvalMod(t *testing.T, p []api.Term, at []int, prime int) {
	t.Helper()
	got, e := multipoly.EvalMod(p, at, prime)
	if !modular.Prime(prime) {
		if got != 0 || e != api.ErrPrime {
			t.Error("P8.7: EvalMod modulo", prime, "is", got, "error", e)
		}
		return
	}
	if want := residue(p, at, prime); got != want || e != api.OK {
		t.Error("P8.7: EvalMod of", short(p), "at", at, "modulo", prime, "is", got, "error", e, "and not", want)
	}
}

func checkPrimitive(t *testing.T, p []api.Term) {
	t.Helper()
	got, e := multipoly.Primitive(p)
	checkResult(t, "P8.8: Primitive", got, e, func() []api.Term { return primitive(p) }, p)
}

func checkText(t *testing.T, p []api.Term) {
	t.Helper()
	s, e := multipoly.Text(p)
	if want := show(toModel(p)); s != want || e != api.OK {
		t.Errorf("P8.9: Text: %q, error %d, not %q", s, e, want)
	}
	q, e := multipoly.Parse(s)
	if e != api.OK || !equal(p, q) {
		t.Errorf("P8.10, P8.13: Parse(%q): %s, error %d", s, short(q), e)
	}
}

// most is the greatest integer.
func most() api.Int {
	n, _ := integer.Sub(fromInt(new(big.Int).Lsh(big.NewInt(1), maxBits-1)), integer.Of(1))
	n, _ = integer.Add(n, fromInt(new(big.Int).Lsh(big.NewInt(1), maxBits-1)))
	return n
}
