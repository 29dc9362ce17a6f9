package unipoly_test

import (
	"math/big"
	"math/rand"
	"testing"

	"straightedge/api"
	"straightedge/unipoly"
)

func TestCheck(t *testing.T) {
	for i, x := range []struct {
		p    []api.Rat
		want api.Errno
	}{
		{nil, api.OK},
		{[]api.Rat{}, api.OK},
		{fromList(ints(-3)), api.OK},
		{fromList(ints(0, 0, 1)), api.OK},
		{fromList(full(api.MaxDegree + 1)), api.OK},
		{fromList(full(api.MaxDegree + 2)), api.ErrTooBig},
		{fromList(power(1000)), api.ErrTooBig},
		{fromList(ints(0)), api.ErrArg},
		{fromList(ints(1, 2, 0)), api.ErrArg},
		{append(fromList(full(api.MaxDegree+1)), fromRat(new(big.Rat))), api.ErrArg},
		{append(fromList(full(api.MaxDegree+1)), api.Rat{}), api.ErrArg},
		{append([]api.Rat{{}}, fromList(full(api.MaxDegree+1))...), api.ErrArg},
	} {
		if e := unipoly.Check(x.p); e != x.want {
			t.Errorf("P3.1: polynomial %d: error %d, not %d", i, e, x.want)
		}
	}
	for i, bad := range invalidNumbers() {
		for _, p := range [][]api.Rat{{bad}, append(fromList(ints(1)), bad), append([]api.Rat{bad}, fromList(ints(1))...)} {
			if e := unipoly.Check(p); e != api.ErrArg {
				t.Errorf("P3.1: number %d is not valid: error %d", i, e)
			}
		}
	}
}

// invalidNumbers returns rational numbers that are not valid.
func invalidNumbers() []api.Rat {
	one, two := api.Int{Mag: []uint32{1}}, api.Int{Mag: []uint32{2}}
	long := api.Int{Mag: make([]uint32, api.MaxLimbs+1)}
	long.Mag[api.MaxLimbs] = 1
	return []api.Rat{
		{},
		{Num: one},
		{Num: two, Den: two},
		{Den: two},
		{Num: one, Den: api.Int{Neg: true, Mag: []uint32{2}}},
		{Num: long, Den: one},
		{Num: one, Den: long},
		{Num: api.Int{Neg: true}, Den: one},
		{Num: api.Int{Mag: []uint32{1, 0}}, Den: one},
	}
}

// checkError checks an error, and that no result stands beside it.
func checkError(t *testing.T, what string, results [][]api.Rat, e, want api.Errno) {
	t.Helper()
	if e != want {
		t.Fatalf("%s: error %d, not %d", what, e, want)
	}
	if e == api.OK {
		return
	}
	for _, r := range results {
		// A number beside an error is the zero value; a polynomial has no coefficients.
		if len(r) > 1 || len(r) == 1 && !isNothing(r[0]) {
			t.Fatalf("%s: error %d with %v", what, e, r)
		}
	}
}

func TestErrorsOfArguments(t *testing.T) {
	valid := [][]api.Rat{nil, fromList(ints(7)), fromList(ints(1, 2, 3)), fromList(full(api.MaxDegree + 1))}
	invalid := [][]api.Rat{{{}}, fromList(ints(0)), fromList(ints(1, 0)), fromList(full(api.MaxDegree + 2)), append(fromList(full(api.MaxDegree+1)), api.Rat{})}
	all := append(valid, invalid...)
	for _, f := range functions() {
		for _, p := range all {
			for _, q := range all {
				want := unipoly.Check(p)
				if want == api.OK && f.two {
					want = unipoly.Check(q)
				}
				if want == api.OK {
					continue
				}
				if f.name == "P3.7: Eval" && len(q) == 0 {
					q = []api.Rat{{}}
				}
				results, e := f.call(p, q)
				checkError(t, "P3.1, "+f.name, results, e, want)
			}
		}
	}
	for _, p := range invalid {
		if s, e := unipoly.Text(p); s != "" || e != unipoly.Check(p) {
			t.Errorf("P3.1, P3.11: Text: error %d with %q", e, s)
		}
	}
	for _, p := range valid {
		for _, bad := range invalidNumbers() {
			if v, e := unipoly.Eval(p, bad); e != api.ErrArg || !isNothing(v) {
				t.Errorf("P3.1, P3.7: Eval: error %d with %v", e, v)
			}
		}
	}
	if v, e := unipoly.Eval(fromList(full(api.MaxDegree+2)), api.Rat{}); e != api.ErrTooBig || !isNothing(v) {
		t.Errorf("P3.1, P3.7: Eval: error %d with %v", e, v)
	}
}

// checkCall compares a call with the contract, and returns its error.
func checkCall(t *testing.T, f function, p, q list) api.Errno {
	t.Helper()
	want, wantError := expect(f, p, q)
	got, e := f.call(fromList(p), fromList(q))
	if e != wantError {
		t.Fatalf("%s of %v and %v: error %d, not %d", f.name, p, q, e, wantError)
	}
	if e != api.OK {
		checkError(t, f.name, got, e, wantError)
		return e
	}
	for i := range want {
		if !equal(toList(t, got[i]), want[i]) {
			t.Fatalf("%s of %v and %v: %v, not %v", f.name, p, q, got[i], want[i])
		}
	}
	return api.OK
}

// corners are polynomials with which the contracts have special cases.
func corners() []list {
	return []list{
		nil, ints(1), ints(-1), ints(5), coefs("-2/3"), ints(0, 1), ints(0, -3), ints(1, 1), ints(-1, 1), ints(2, 2),
		ints(0, 0, 1), ints(-1, 0, 1), ints(1, -2, 1), coefs("1", "-1", "3/4"), ints(0, 0, 0, 1), ints(0, 0, -1, 1), ints(-1, 0, 0, 0, 4), coefs("0", "1/2", "0", "0", "0", "-7"),
		power(20), power(32), power(api.MaxDegree), full(api.MaxDegree + 1), full(api.MaxDegree/2 + 1),
		{wide(maxBits, -1)}, {wide(maxBits, -1), wide(maxBits, -1)}, {wide(maxBits-1, 0), big.NewRat(1, 1)}, {big.NewRat(3, 1), new(big.Rat).Inv(wide(maxBits-1, 0))}, {wide(maxBits/2, 0), wide(maxBits/2, 1)},
	}
}

func TestCorners(t *testing.T) {
	for _, f := range functions() {
		for _, p := range corners() {
			for _, q := range corners() {
				checkCall(t, f, p, q)
			}
		}
	}
}

func TestDrawn(t *testing.T) {
	source := rand.New(rand.NewSource(1))
	for _, f := range functions() {
		done := map[api.Errno]int{}
		for _, bits := range []int{2, 40, 200, maxBits / 12, maxBits / 4, maxBits / 2, maxBits} {
			for range 60 {
				done[checkCall(t, f, draw(source, 5, bits), draw(source, 5, bits))]++
				done[checkCall(t, f, draw(source, 9, bits), draw(source, 3, 2))]++
				done[checkCall(t, f, draw(source, 3, 2), draw(source, 9, bits))]++
			}
		}
		if done[api.OK] < 200 || done[api.ErrTooBig] < 40 {
			t.Error(f.name, "is not tested on both sides of the limit:", done)
		}
	}
}

// unbounded multiplies without a limit.
func unbounded(factors ...list) list {
	l := ints(1)
	for _, p := range factors {
		next := make(list, len(l)+len(p)-1)
		for i := range next {
			next[i] = new(big.Rat)
		}
		for i := range l {
			for j := range p {
				next[i+j].Add(next[i+j], new(big.Rat).Mul(l[i], p[j]))
			}
		}
		l = next
	}
	return l
}

func TestDrawnWithCommonDivisors(t *testing.T) {
	source := rand.New(rand.NewSource(2))
	for _, f := range functions() {
		for _, bits := range []int{2, 20, 60, 150} {
			for range 40 {
				common := drawSome(source, 4, bits)
				p, q := unbounded(common, drawSome(source, 4, bits)), unbounded(common, common, drawSome(source, 3, bits))
				checkCall(t, f, p, q)
				checkCall(t, f, q, p)
			}
		}
	}
}

func TestExamples(t *testing.T) {
	p, e := unipoly.Mul(fromList(ints(-1, 1)), fromList(ints(1, 1)))
	checkList(t, "P3.3: Mul", p, e, ints(-1, 0, 1))
	quot, rest, e := unipoly.DivMod(fromList(ints(0, 0, 1)), fromList(ints(-1, 2)))
	checkList(t, "P3.4: quotient", quot, e, coefs("1/4", "1/2"))
	checkList(t, "P3.4: remainder", rest, e, coefs("1/4"))
	p, e = unipoly.GCD(fromList(ints(-1, 0, 1)), fromList(ints(2, 2)))
	checkList(t, "P3.5: GCD", p, e, ints(1, 1))
	p, e = unipoly.Squarefree(fromList(ints(0, 0, -1, 1)))
	checkList(t, "P3.8: Squarefree", p, e, ints(0, -1, 1))
	p, e = unipoly.Compose(fromList(ints(0, 0, 1)), fromList(ints(1, 1)))
	checkList(t, "P3.10: Compose", p, e, ints(1, 2, 1))
	v, e := unipoly.Resultant(fromList(ints(-2, 0, 1)), fromList(ints(-1, 1)))
	checkNumber(t, "P3.9: Resultant", v, e, big.NewRat(-1, 1))
	v, e = unipoly.Resultant(fromList(ints(-3, 1)), fromList(ints(-1, 1)))
	checkNumber(t, "P3.9: Resultant", v, e, big.NewRat(2, 1))
}

func TestSumsThatCancel(t *testing.T) {
	p := fromList(coefs("1/2", "3", "-5/7"))
	sum, e := unipoly.Add(p, fromList(coefs("1/2", "-3", "5/7")))
	checkList(t, "P3.2: Add", sum, e, ints(1))
	sum, e = unipoly.Add(p, fromList(coefs("-1/2", "-3", "5/7")))
	checkList(t, "P3.2: Add", sum, e, nil)
	sum, e = unipoly.Sub(p, fromList(coefs("0", "3", "-5/7")))
	checkList(t, "P3.2: Sub", sum, e, coefs("1/2"))
	sum, e = unipoly.Sub(p, p)
	checkList(t, "P3.2: Sub", sum, e, nil)
	sum, e = unipoly.Sub(nil, p)
	checkList(t, "P3.2: Sub", sum, e, coefs("-1/2", "-3", "5/7"))
}

func TestZeroDivisor(t *testing.T) {
	for _, p := range corners() {
		quot, rest, e := unipoly.DivMod(fromList(p), nil)
		checkError(t, "P3.4: DivMod", [][]api.Rat{quot, rest}, e, api.ErrZero)
	}
	p, e := unipoly.Squarefree(nil)
	checkError(t, "P3.8: Squarefree", [][]api.Rat{p}, e, api.ErrZero)
}

func TestSmallerDegrees(t *testing.T) {
	p := coefs("1/2", "3")
	quot, rest, e := unipoly.DivMod(fromList(p), fromList(ints(0, 0, 1)))
	checkList(t, "P3.4: quotient", quot, e, nil)
	checkList(t, "P3.4: remainder", rest, e, p)
	quot, rest, e = unipoly.DivMod(nil, fromList(ints(2)))
	checkList(t, "P3.4: quotient", quot, e, nil)
	checkList(t, "P3.4: remainder", rest, e, nil)
	quot, rest, e = unipoly.DivMod(fromList(p), fromList(ints(2)))
	checkList(t, "P3.4: quotient", quot, e, coefs("1/4", "3/2"))
	checkList(t, "P3.4: remainder", rest, e, nil)
}

func TestResultantOfConstants(t *testing.T) {
	for _, x := range []struct {
		p, q list
		want int64
	}{
		{nil, nil, 0}, {nil, ints(3), 0}, {ints(3), nil, 0}, {ints(1, 1), nil, 0}, {nil, ints(1, 1), 0},
		{ints(2), ints(3), 1}, {ints(5), ints(1, 2, 3), 25}, {ints(1, 2, 3), ints(5), 25}, {ints(-5), ints(1, 2, 3, 4), -125}, {ints(1, 2, 3, 4), ints(-5), -125},
		{ints(1, 1), ints(2, 2), 0}, {ints(-1, 1), ints(-3, 1), -2}, {ints(1, 2), ints(0, 0, 0, 1), -1}, {ints(0, 0, 0, 1), ints(1, 2), 1},
	} {
		v, e := unipoly.Resultant(fromList(x.p), fromList(x.q))
		checkNumber(t, "P3.9: Resultant", v, e, big.NewRat(x.want, 1))
	}
}

func TestDegreeLimits(t *testing.T) {
	for _, x := range []struct {
		m, n         int
		mul, compose api.Errno
	}{
		{0, 64, api.OK, api.OK},
		{64, 0, api.OK, api.OK},
		{1, 64, api.ErrTooBig, api.OK},
		{64, 1, api.ErrTooBig, api.OK},
		{32, 32, api.OK, api.ErrTooBig},
		{33, 32, api.ErrTooBig, api.ErrTooBig},
		{8, 8, api.OK, api.OK},
		{5, 13, api.OK, api.ErrTooBig},
		{13, 5, api.OK, api.ErrTooBig},
		{2, 32, api.OK, api.OK},
		{64, 64, api.ErrTooBig, api.ErrTooBig},
	} {
		p, e := unipoly.Mul(fromList(power(x.m)), fromList(power(x.n)))
		if checkError(t, "P3.3: Mul", [][]api.Rat{p}, e, x.mul); e == api.OK {
			checkList(t, "P3.3: Mul", p, e, power(x.m+x.n))
		}
		p, e = unipoly.Compose(fromList(power(x.m)), fromList(power(x.n)))
		if checkError(t, "P3.10: Compose", [][]api.Rat{p}, e, x.compose); e == api.OK {
			checkList(t, "P3.10: Compose", p, e, power(x.m*x.n))
		}
	}
	most := fromList(full(api.MaxDegree + 1))
	for _, call := range []func(p, q []api.Rat) ([]api.Rat, api.Errno){unipoly.Mul, unipoly.Compose} {
		p, e := call(nil, most)
		checkList(t, "P3.3, P3.10: the zero polynomial", p, e, nil)
	}
	p, e := unipoly.Mul(most, nil)
	checkList(t, "P3.3: the zero polynomial", p, e, nil)
	p, e = unipoly.Compose(most, nil)
	checkList(t, "P3.10: with the zero polynomial", p, e, ints(1))
	p, e = unipoly.Compose(fromList(power(api.MaxDegree)), nil)
	checkList(t, "P3.10: with the zero polynomial", p, e, nil)
}
