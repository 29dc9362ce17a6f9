package multipoly_test

import (
	"math"
	"math/rand"
	"slices"
	"testing"

	"straightedge/api"
	"straightedge/integer"
	"straightedge/multipoly"
)

// TestExamples checks the chapter's examples.
func TestExamples(t *testing.T) {
	p := must[[]api.Term](t)(multipoly.Mul(poly("x0 + x1"), poly("x0 - x1")))
	if !equal(p, []api.Term{{Coef: integer.Of(-1), Exps: []int{0, 2}}, {Coef: integer.Of(1), Exps: []int{2}}}) {
		t.Error("P8.3: Mul:", short(p))
	}
	terms := []api.Term{{Coef: integer.Of(5)}, {Coef: integer.Of(-3), Exps: []int{0, 1}}, {Coef: integer.Of(1), Exps: []int{2, 1}}}
	if s := must[string](t)(multipoly.Text(terms)); s != "x0^2*x1 - 3*x1 + 5" {
		t.Error("P8.9: Text:", s)
	}
	a, r, k, e := multipoly.PseudoDiv(poly("x0^2"), poly("x1*x0 + 1"), 0)
	if !equal(a, poly("x0*x1 - 1")) || !equal(r, poly("1")) || k != 2 || e != api.OK {
		t.Error("P8.5: PseudoDiv:", short(a), ";", short(r), k, e)
	}
	if v := must[api.Rat](t)(multipoly.Eval(poly("x0*x1 + 1"), numbers("1/2 3"))); numberText(v) != "5/2" {
		t.Error("P8.6: Eval:", numberText(v))
	}
	if n := must[int](t)(multipoly.EvalMod(poly("x0*x1 + 1"), []int{2, 3}, 5)); n != 2 {
		t.Error("P8.7: EvalMod:", n)
	}
	if p := must[[]api.Term](t)(multipoly.Primitive(poly("-6*x0 + 4"))); !equal(p, poly("3*x0 - 2")) {
		t.Error("P8.8: Primitive:", short(p))
	}
	for s, want := range map[string]api.Errno{"1*x0": api.ErrForm, "x0 + x0": api.ErrForm, "x0^65": api.ErrTooBig, "x1 + x0": api.ErrForm} {
		if p, e := multipoly.Parse(s); e != want || len(p) > 0 {
			t.Error("P8.10: Parse of", s, "has error", e, "and not", want)
		}
	}
}

func TestConst(t *testing.T) {
	for _, n := range []int{0, 1, -1, 7, -12, 1 << 32, -1 << 40, math.MaxInt, math.MinInt} {
		var want []api.Term
		if n != 0 {
			want = []api.Term{{Coef: integer.Of(n)}}
		}
		if p := multipoly.Const(n); !equal(p, want) {
			t.Error("P8.1: Const of", n, "is", short(p))
		}
	}
}

func TestVar(t *testing.T) {
	for v := range api.MaxVars {
		exps := append(make([]int, v), 1)
		if p, e := multipoly.Var(v); e != api.OK || !equal(p, []api.Term{{Coef: integer.Of(1), Exps: exps}}) {
			t.Error("P8.1: Var of", v, "is", short(p), "error", e)
		}
	}
	for _, v := range []int{-1, api.MaxVars, api.MaxVars + 1, math.MinInt, math.MaxInt} {
		if p, e := multipoly.Var(v); e != api.ErrArg || len(p) > 0 {
			t.Error("P8.1: Var of", v, "is", short(p), "error", e)
		}
	}
}

// TestContracts checks all functions on drawn polynomials.
func TestContracts(t *testing.T) {
	source := rand.New(rand.NewSource(81))
	for range 3000 {
		s := drawShape(source)
		p, q := s.draw(source), s.draw(source)
		if source.Intn(4) == 0 {
			q = drawShape(source).draw(source)
		}
		if source.Intn(8) == 0 {
			q = sum(q, p, -1)
		}
		checkAdd(t, p, q)
		checkSub(t, p, q)
		checkMul(t, p, q)
		v := s.vars[source.Intn(len(s.vars))]
		checkCoeff(t, p, v, source.Intn(s.exponent+2))
		checkCoeff(t, p, source.Intn(api.MaxVars), source.Intn(3))
		checkDiv(t, p, q, v)
		checkPrimitive(t, p)
		checkText(t, p)
		at, residues := drawPlace(source)
		checkEval(t, p, at)
		checkEvalMod(t, p, residues, []int{3, 5, 7, 101, 1000003, api.MaxPrime, 9, 2, -7}[source.Intn(9)])
	}
}

// drawPlace returns a number for each variable, rational numbers and integers.
func drawPlace(source *rand.Rand) ([]api.Rat, []int) {
	at, residues := make([]api.Rat, api.MaxVars), make([]int, api.MaxVars)
	for v := range at {
		at[v] = drawRat(source, 1+source.Intn(6))
		residues[v] = int(source.Uint64())
		if source.Intn(3) == 0 {
			residues[v] = source.Intn(9) - 4
		}
	}
	return at, residues
}

// TestSums has all cases of where a monomial occurs and what remains of it.
func TestSums(t *testing.T) {
	for _, x := range [][2]string{
		{"0", "0"}, {"0", "x3"}, {"x3", "0"}, {"x0", "x0"}, {"x0", "-x0"}, {"x0 + x1", "x0 - x1"}, {"5", "-5"}, {"x31^64", "x31^64"},
		{"x1^64", "x0"}, {"x0", "x1^64"}, {"x0*x31 + x31", "x0 + 1"}, {"x0^2 + x0 + 1", "-x0^2 + x0 - 1"}, {"x0^2 + x0 + 1", "x0^2 - x0 + 1"},
		{"x0^2*x1 - 3*x1 + 5", "x0^2*x1 + 3*x1 + 5"}, {"4294967295*x0", "x0"}, {"x0^2*x2", "x0^2*x1"}, {"2^4000", "2^4000"}, {"x0^10", "x0^9*x1^64"},
	} {
		checkAdd(t, poly(x[0]), poly(x[1]))
		checkSub(t, poly(x[0]), poly(x[1]))
		checkMul(t, poly(x[0]), poly(x[1]))
	}
}

func TestDegreeAndCoeff(t *testing.T) {
	for _, s := range []string{"0", "7", "x0", "x31", "x0^64*x31^64", "x0^2*x1 + x0^2 - x2", "x1^3*x2 + x1^3*x5 + x1*x2^2 + x2^3", "x0*x1*x2 + x1*x2 + x2 + 1", "3*x4^2 + 3*x4"} {
		p := poly(s)
		for v := range api.MaxVars {
			for _, n := range []int{0, 1, 2, 3, api.MaxExponent, api.MaxExponent + 1, 256, 257, 1 << 32, math.MaxInt} {
				checkCoeff(t, p, v, n)
			}
		}
	}
}

func TestDivisions(t *testing.T) {
	for _, x := range []struct {
		p, q string
		v    int
	}{
		{"0", "x0", 0}, {"x0", "x0", 0}, {"x0^64", "x0", 0}, {"x0^64", "x0^64", 0}, {"x0^63", "x0^64", 0}, {"x1", "x0", 0}, {"7", "x0 + 1", 0},
		{"x0^3 - 1", "x0 - 1", 0}, {"x0^4 + x0", "2*x0^2 + 1", 0}, {"x0^4 + x0^2", "2*x0^2 + 2", 0}, {"x0^2", "x0*x1 + 1", 0}, {"x0^2", "x0*x1 + 1", 1}, {"x1^5 + x0", "x0*x1 + 1", 1},
		{"x31^3", "x0*x31 + x5", 31}, {"x0^5 + x0", "x1*x0^2", 0}, {"x0^2 - x1^2", "x0 - x1", 0}, {"x0^2 - x1^2", "x0 - x1", 1}, {"x0^2 - x1^2", "-x0 - x1", 0},
		{"x0^6 + x0^5*x1 + x2", "x1*x0^2 + x2*x0 + 3", 0}, {"x0^40", "x1^2*x0 + 1", 0}, {"x0^33", "x1^2*x0 + 1", 0}, {"x0^32", "x1^2*x0 + 1", 0}, {"x0^31", "x1^2*x0 + 1", 0},
		{"2*x0 + 4", "2*x0 + 4", 0}, {"x0^3", "x0^2 - x0", 0}, {"x0^10", "x0^3 + x0 + 1", 0},
	} {
		checkDiv(t, poly(x.p), poly(x.q), x.v)
	}
}

// TestTakenVariables checks that the number of variables is that of the given numbers, and not of those that occur.
func TestTakenVariables(t *testing.T) {
	p := poly("x0^2*x1 - 3*x1 + 5")
	for n := range api.MaxVars + 3 {
		at, residues := slices.Repeat(numbers("2/3"), n), slices.Repeat([]int{-3}, n)
		want := api.OK
		if n < 2 || n > api.MaxVars {
			want = api.ErrArg
		}
		_, e := multipoly.Eval(p, at)
		_, f := multipoly.EvalMod(p, residues, 7)
		if e != want || f != want {
			t.Error("P8.6, P8.7: for", n, "variables: errors", e, f, "and not", want)
		}
		if e := multipoly.Check(p, n); e != want {
			t.Error("P8.1: Check for", n, "variables: error", e, "and not", want)
		}
		if want == api.OK {
			checkEval(t, p, at)
			checkEvalMod(t, p, residues, 7)
		}
		if _, e := multipoly.Eval(nil, at); (e == api.OK) != (n <= api.MaxVars) {
			t.Error("P8.6: 0 in", n, "variables: error", e)
		}
	}
}

func TestEvalMod(t *testing.T) {
	for _, s := range []string{"0", "7", "-1", "x0", "-x0", "x0^64", "x0^2 - x1", "2^4000*x0 - 2^4000*x1 + 1", "-2^4095*x0^3*x1^3", "x0^63*x1^64 - 5"} {
		for _, prime := range []int{3, 5, 7, 65537, 2147483629, api.MaxPrime} {
			for _, at := range [][]int{{0, 0}, {1, 2}, {-1, prime}, {prime - 1, prime + 1}, {math.MinInt, math.MaxInt}, {1 << 62, -prime}} {
				checkEvalMod(t, poly(s), at, prime)
			}
		}
	}
	for _, prime := range []int{0, 1, 2, 4, 9, -3, -5, 1 << 31, 2147483659, 4294967311, math.MaxInt, math.MinInt} {
		checkEvalMod(t, poly("x0"), []int{1}, prime)
		checkEvalMod(t, nil, nil, prime)
	}
}

func TestPrimitives(t *testing.T) {
	for _, s := range []string{"0", "7", "-7", "1", "-1", "x0", "-x0", "-6*x0 + 4", "6*x0 - 4", "-6*x0 - 4", "10*x0*x1 - 15*x2", "6*x0 + 10*x1 + 15*x2", "2^4000*x0 + 2^3999", "-2^4095*x0 + 2^64*x1", "4*x0 + 2", "x0 + 2", "4294967296*x0 - 4294967296"} {
		checkPrimitive(t, poly(s))
	}
}
