package realroot_test

import (
	"testing"

	"straightedge/api"
	"straightedge/integer"
	"straightedge/rational"
	"straightedge/realroot"
	"straightedge/unipoly"
)

// This file restates the chapter's contracts word by word: each of them makes all calls that it lists again, and stops at the first error.

// stop is the panic of a contract that ends with an error.
type stop struct{ because api.Errno }

// need returns the result of a call, and stops at an error.
func need[T any](v T, e api.Errno) T {
	if e != api.OK {
		panic(stop{e})
	}
	return v
}

// refuse stops with an error if something is wrong.
func refuse(wrong bool, e api.Errno) {
	if wrong {
		panic(stop{e})
	}
}

// expect returns the result that a contract states, or its error.
func expect[T any](contract func() T) (v T, e api.Errno) {
	defer func() {
		if cause := recover(); cause != nil {
			e = cause.(stop).because
		}
	}()
	return contract(), api.OK
}

func checkPoly(p []api.Rat) {
	e := unipoly.Check(p)
	refuse(e != api.OK, e)
}

func remainder(f, g []api.Rat) []api.Rat {
	_, r, e := unipoly.DivMod(f, g)
	return need(r, e)
}

func wantChain(p []api.Rat) [][]api.Rat {
	checkPoly(p)
	refuse(len(p) == 0, api.ErrZero)
	l := [][]api.Rat{p}
	if d := need(unipoly.Derivative(p)); len(d) > 0 {
		l = append(l, d)
	} else {
		return l
	}
	for {
		r := remainder(l[len(l)-2], l[len(l)-1])
		if len(r) == 0 {
			return l
		}
		divisor := r[len(r)-1]
		if rational.Sign(divisor) == 1 {
			divisor = need(rational.Sub(ratio(0, 1), divisor))
		}
		var next []api.Rat
		for _, x := range r {
			next = append(next, need(rational.Div(x, divisor)))
		}
		l = append(l, next)
	}
}

// wantVariations counts the pairs of successive different signs in what remains without zeros.
func wantVariations(signs []int) int {
	var rest []int
	for _, s := range signs {
		if s != 0 {
			rest = append(rest, s)
		}
	}
	n := 0
	for i := 1; i < len(rest); i++ {
		if rest[i-1] != rest[i] {
			n++
		}
	}
	return n
}

func variationsAt(c [][]api.Rat, x api.Rat) int {
	var signs []int
	for _, p := range c {
		signs = append(signs, rational.Sign(need(unipoly.Eval(p, x))))
	}
	return wantVariations(signs)
}

func wantCount(p []api.Rat, lo, hi api.Rat) int {
	checkPoly(p)
	refuse(!rational.Valid(lo) || !rational.Valid(hi) || order(lo, hi) != -1, api.ErrArg)
	refuse(len(p) == 0, api.ErrZero)
	c := wantChain(need(unipoly.Squarefree(p)))
	n := variationsAt(c, lo)
	return n - variationsAt(c, hi)
}

func wantAll(p []api.Rat) int {
	checkPoly(p)
	refuse(len(p) == 0, api.ErrZero)
	var small, great []int
	for _, q := range wantChain(need(unipoly.Squarefree(p))) {
		s := rational.Sign(q[len(q)-1])
		great = append(great, s)
		for range len(q) - 1 {
			s = -s
		}
		small = append(small, s)
	}
	return wantVariations(small) - wantVariations(great)
}

func wantIsolate(p []api.Rat) []api.Root {
	checkPoly(p)
	refuse(len(p) == 0, api.ErrZero)
	q := need(unipoly.Squarefree(p))
	c := wantChain(q)
	if len(q) == 1 {
		return nil
	}
	greatest := ratio(0, 1)
	for _, x := range q[:len(q)-1] {
		if rational.Sign(x) == -1 {
			x = need(rational.Sub(ratio(0, 1), x))
		}
		if order(x, greatest) == 1 {
			greatest = x
		}
	}
	b, limit := ratio(1, 1), need(rational.Add(ratio(1, 1), greatest))
	for order(b, limit) != 1 {
		b = need(rational.Mul(b, ratio(2, 1)))
	}
	return wantSearch(q, c, need(rational.Sub(ratio(0, 1), b)), b)
}

func wantSearch(q []api.Rat, c [][]api.Rat, lo, hi api.Rat) []api.Root {
	n := variationsAt(c, lo)
	n -= variationsAt(c, hi)
	atLo, atHi := rational.Sign(need(unipoly.Eval(q, lo))), rational.Sign(need(unipoly.Eval(q, hi)))
	if atHi == 0 {
		n--
	}
	if n == 0 {
		return nil
	}
	if n == 1 && atLo != 0 && atHi != 0 {
		return []api.Root{root(q, lo, hi)}
	}
	m := wantMiddle(lo, hi)
	variationsAt(c, m)
	l := wantSearch(q, c, lo, m)
	if rational.Sign(need(unipoly.Eval(q, m))) == 0 {
		l = append(l, root(q, m, m))
	}
	return append(l, wantSearch(q, c, m, hi)...)
}

func wantMiddle(lo, hi api.Rat) api.Rat {
	return need(rational.Mul(need(rational.Add(lo, hi)), ratio(1, 2)))
}

// wantCheck returns nothing, but a contract has a result.
func wantCheck(r api.Root) int {
	checkPoly(r.Poly)
	lo, hi := r.Interval.Lo, r.Interval.Hi
	refuse(len(r.Poly) < 2 || !rational.Valid(lo) || !rational.Valid(hi) || order(lo, hi) == 1, api.ErrArg)
	refuse(!equalPoly(need(unipoly.Squarefree(r.Poly)), r.Poly), api.ErrArg)
	atLo := need(unipoly.Eval(r.Poly, lo))
	if equal(lo, hi) {
		refuse(rational.Sign(atLo) != 0, api.ErrArg)
		return 0
	}
	atHi := need(unipoly.Eval(r.Poly, hi))
	n := wantCount(r.Poly, lo, hi)
	refuse(rational.Sign(atLo) == 0 || rational.Sign(atHi) == 0 || n != 1, api.ErrArg)
	return 0
}

func isExact(r api.Root) bool { return equal(r.Interval.Lo, r.Interval.Hi) }

func wantBisect(r api.Root) api.Root {
	lo, hi := r.Interval.Lo, r.Interval.Hi
	m := wantMiddle(lo, hi)
	v := rational.Sign(need(unipoly.Eval(r.Poly, m)))
	if v == 0 {
		return root(r.Poly, m, m)
	}
	if v == rational.Sign(need(unipoly.Eval(r.Poly, lo))) {
		return root(r.Poly, m, hi)
	}
	return root(r.Poly, lo, m)
}

func wantRefine(r api.Root, bits int) api.Root {
	wantCheck(r)
	refuse(bits < 0 || bits > 1024, api.ErrArg)
	width := ratio(1, 1)
	for range bits {
		width = need(rational.Mul(width, ratio(1, 2)))
	}
	for !isExact(r) && order(need(rational.Sub(r.Interval.Hi, r.Interval.Lo)), width) == 1 {
		r = wantBisect(r)
	}
	return r
}

func wantSignAt(q []api.Rat, r api.Root) int {
	checkPoly(q)
	wantCheck(r)
	if len(q) == 0 {
		return 0
	}
	if isExact(r) {
		return rational.Sign(need(unipoly.Eval(q, r.Interval.Lo)))
	}
	g := need(unipoly.GCD(q, r.Poly))
	if len(g) > 1 && wantCount(g, r.Interval.Lo, r.Interval.Hi) == 1 {
		return 0
	}
	for !isExact(r) && wantCount(q, r.Interval.Lo, r.Interval.Hi) != 0 {
		r = wantBisect(r)
	}
	return rational.Sign(need(unipoly.Eval(q, r.Interval.Hi)))
}

// minus returns x - n, of which both coefficients are listed.
func minus(n api.Rat) []api.Rat {
	return []api.Rat{need(rational.Sub(ratio(0, 1), n)), ratio(1, 1)}
}

func wantCmp(a, b api.Root) int {
	wantCheck(a)
	wantCheck(b)
	s := wantSignAt(minus(b.Interval.Lo), a)
	if isExact(b) || s != 1 {
		if !isExact(b) && s == 0 {
			return -1
		}
		return s
	}
	if wantSignAt(minus(b.Interval.Hi), a) != -1 {
		return 1
	}
	u := wantSignAt(b.Poly, a)
	w := rational.Sign(need(unipoly.Eval(b.Poly, b.Interval.Lo)))
	switch u {
	case 0:
		return 0
	case w:
		return -1
	}
	return 1
}

func wantFloor(r api.Root, bits int) api.Int {
	wantCheck(r)
	refuse(bits < 0 || bits > 1024, api.ErrArg)
	r = wantRefine(r, bits)
	f := need(rational.Floor(r.Interval.Lo, bits))
	if isExact(r) {
		return f
	}
	g := need(rational.Floor(r.Interval.Hi, bits))
	if equalInt(f, g) {
		return f
	}
	n := need(rational.Make(g, need(integer.Shift(integer.Of(1), bits))))
	if wantSignAt(minus(n), r) == -1 {
		return f
	}
	return g
}

func wantTrim(l [][]api.Rat, r api.Root) [][]api.Rat {
	for len(l) > 0 && wantSignAt(l[len(l)-1], r) == 0 {
		l = l[:len(l)-1]
	}
	return l
}

func wantFibre(p [][]api.Rat, r api.Root) int {
	refuse(len(p) > api.MaxDegree+1, api.ErrTooBig)
	for _, x := range p {
		checkPoly(x)
	}
	wantCheck(r)
	var first, second [][]api.Rat
	for _, x := range p {
		first = append(first, remainder(x, r.Poly))
	}
	first = wantTrim(first, r)
	refuse(len(first) == 0, api.ErrZero)
	if len(first) == 1 {
		return 0
	}
	for j := 1; j < len(first); j++ {
		second = append(second, need(unipoly.Mul(first[j], ints(j))))
	}
	lists := [][][]api.Rat{first, wantTrim(second, r)}
	for {
		next := wantFollowing(lists[len(lists)-2], lists[len(lists)-1], r)
		if len(next) == 0 {
			break
		}
		lists = append(lists, next)
	}
	var signs, negated []int
	for _, l := range lists {
		s := wantSignAt(l[len(l)-1], r)
		signs = append(signs, s)
		if len(l)%2 == 0 {
			s = -s
		}
		negated = append(negated, s)
	}
	return wantVariations(negated) - wantVariations(signs)
}

// wantFollowing is step 3 of P4.8.
func wantFollowing(f, g [][]api.Rat, r api.Root) [][]api.Rat {
	c := g[len(g)-1]
	h := append([][]api.Rat{}, f...)
	for len(h) >= len(g) {
		e, s := h[len(h)-1], len(h)-len(g)
		for k := 0; k < len(h)-1; k++ {
			x := remainder(need(unipoly.Mul(h[k], c)), r.Poly)
			if k >= s {
				x = need(unipoly.Sub(x, remainder(need(unipoly.Mul(e, g[k-s])), r.Poly)))
			}
			h[k] = remainder(need(unipoly.Mul(x, c)), r.Poly)
		}
		h = wantTrim(h[:len(h)-1], r)
	}
	var next [][]api.Rat
	for _, x := range h {
		next = append(next, need(unipoly.Sub(nil, x)))
	}
	return next
}

// same compares a call with its contract, and returns its error.
func same[T any](t *testing.T, what string, call, contract func() (T, api.Errno), equal func(a, b T) bool, about ...string) api.Errno {
	t.Helper()
	got, e := call()
	want, wantError := contract()
	if e != wantError || !equal(got, want) {
		t.Fatal(what, about, "error", e, "with", got, "and not", wantError, "with", want)
	}
	return e
}

// checkOnPoly compares all functions of a polynomial with their contracts, and returns the last error.
func checkOnPoly(t *testing.T, p []api.Rat, lo, hi api.Rat) api.Errno {
	t.Helper()
	about := text(p)
	same(t, "P4.1: Chain", func() ([][]api.Rat, api.Errno) { return realroot.Chain(p) }, func() ([][]api.Rat, api.Errno) { return expect(func() [][]api.Rat { return wantChain(p) }) }, equalPolys, about)
	same(t, "P4.2: Count", func() (int, api.Errno) { return realroot.Count(p, lo, hi) }, func() (int, api.Errno) { return expect(func() int { return wantCount(p, lo, hi) }) }, equalNumber, rootText(root(p, lo, hi)))
	same(t, "P4.2: All", func() (int, api.Errno) { return realroot.All(p) }, func() (int, api.Errno) { return expect(func() int { return wantAll(p) }) }, equalNumber, about)
	return same(t, "P4.3: Isolate", func() ([]api.Root, api.Errno) { return realroot.Isolate(p) }, func() ([]api.Root, api.Errno) { return expect(func() []api.Root { return wantIsolate(p) }) }, equalRoots, about)
}

// checkCheck compares Check with its contract.
func checkCheck(t *testing.T, r api.Root) api.Errno {
	t.Helper()
	return same(t, "P4.4: Check", func() (int, api.Errno) { return 0, realroot.Check(r) }, func() (int, api.Errno) { return expect(func() int { return wantCheck(r) }) }, equalNumber, rootText(r))
}

func checkRefine(t *testing.T, r api.Root, bits int) api.Errno {
	t.Helper()
	return same(t, "P4.4: Refine", func() (api.Root, api.Errno) { return realroot.Refine(r, bits) }, func() (api.Root, api.Errno) { return expect(func() api.Root { return wantRefine(r, bits) }) }, equalRoot, rootText(r))
}

func checkSignAt(t *testing.T, q []api.Rat, r api.Root) api.Errno {
	t.Helper()
	return same(t, "P4.5: SignAt", func() (int, api.Errno) { return realroot.SignAt(q, r) }, func() (int, api.Errno) { return expect(func() int { return wantSignAt(q, r) }) }, equalNumber, text(q), rootText(r))
}

func checkCmp(t *testing.T, a, b api.Root) api.Errno {
	t.Helper()
	return same(t, "P4.6: Cmp", func() (int, api.Errno) { return realroot.Cmp(a, b) }, func() (int, api.Errno) { return expect(func() int { return wantCmp(a, b) }) }, equalNumber, rootText(a), rootText(b))
}

func checkFloor(t *testing.T, r api.Root, bits int) api.Errno {
	t.Helper()
	return same(t, "P4.7: Floor", func() (api.Int, api.Errno) { return realroot.Floor(r, bits) }, func() (api.Int, api.Errno) { return expect(func() api.Int { return wantFloor(r, bits) }) }, equalInt, rootText(r))
}

func checkFibre(t *testing.T, p [][]api.Rat, r api.Root) api.Errno {
	t.Helper()
	return same(t, "P4.8: Fibre", func() (int, api.Errno) { return realroot.Fibre(p, r) }, func() (int, api.Errno) { return expect(func() int { return wantFibre(p, r) }) }, equalNumber, rootText(r))
}
