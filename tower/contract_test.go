package tower_test

import (
	"testing"

	"straightedge/api"
	"straightedge/integer"
	"straightedge/rational"
	"straightedge/tower"
)

// This file restates the chapter's contracts word by word: each of them makes all calls that it lists again, those with zeros too, and stops at the first error.

// stop is the panic of a contract that ends with an error.
type stop struct{ because api.Errno }

// need returns the result of a call, and stops at an error.
func need[T any](v T, e api.Errno) T {
	refuse(e != api.OK, e)
	return v
}

// refuse stops with an error if something is wrong.
func refuse(wrong bool, e api.Errno) {
	if wrong {
		panic(stop{e})
	}
}

// expect returns the result that a contract states, or its error.
func expect[T any](contract func() T) (v T, e api.Errno) {
	defer func() {
		if cause := recover(); cause != nil {
			e = cause.(stop).because
		}
	}()
	return contract(), api.OK
}

// levelOf returns the level of an element; -1 if it is none.
func levelOf(x []api.Rat) int {
	for _, r := range x {
		if !rational.Valid(r) {
			return -1
		}
	}
	for j := range 10 {
		if len(x) == 1<<j {
			return j
		}
	}
	return -1
}

func wantElement(x []api.Rat, greatest int) bool {
	j := levelOf(x)
	return j >= 0 && j <= greatest
}

func wantShaped(t api.Tower) bool {
	for i, r := range t.Radicands {
		if !wantElement(r, i) {
			return false
		}
	}
	return len(t.Radicands) <= api.MaxLevels
}

func wantValid(t api.Tower, elements ...[]api.Rat) bool {
	for _, x := range elements {
		if !wantElement(x, len(t.Radicands)) {
			return false
		}
	}
	return wantShaped(t)
}

func checkElements(t api.Tower, elements ...[]api.Rat) {
	refuse(!wantValid(t, elements...), api.ErrArg)
}

func wantCheck(t api.Tower) int {
	refuse(len(t.Radicands) > api.MaxLevels, api.ErrTooBig)
	for i, r := range t.Radicands {
		refuse(!wantElement(r, i), api.ErrArg)
		refuse(wantSign(roots(t.Radicands[:i]...), r) != 1, api.ErrArg)
	}
	return 0
}

// lifted returns the element of level j.
func lifted(x []api.Rat, j int) []api.Rat {
	l := append([]api.Rat{}, x...)
	for len(l) < 1<<j {
		l = append(l, ratio(0, 1))
	}
	return l
}

type operation func(a, b api.Rat) (api.Rat, api.Errno)

func wantEach(do operation, x, y []api.Rat) []api.Rat {
	j := max(levelOf(x), levelOf(y))
	x, y = lifted(x, j), lifted(y, j)
	var l []api.Rat
	for i := range x {
		l = append(l, need(do(x[i], y[i])))
	}
	return l
}

func wantAdd(t api.Tower, x, y []api.Rat) []api.Rat {
	checkElements(t, x, y)
	return wantEach(rational.Add, x, y)
}

func wantSub(t api.Tower, x, y []api.Rat) []api.Rat {
	checkElements(t, x, y)
	return wantEach(rational.Sub, x, y)
}

func wantMul(t api.Tower, x, y []api.Rat) []api.Rat {
	checkElements(t, x, y)
	return wantProduct(t, x, y)
}

func wantProduct(t api.Tower, x, y []api.Rat) []api.Rat {
	j := max(levelOf(x), levelOf(y))
	x, y = lifted(x, j), lifted(y, j)
	if j == 0 {
		return []api.Rat{need(rational.Mul(x[0], y[0]))}
	}
	h := len(x) / 2
	a, b, c, d := x[:h], x[h:], y[:h], y[h:]
	r := lifted(t.Radicands[j-1], j-1)
	p := wantProduct(t, a, c)
	q := wantProduct(t, b, d)
	first := wantEach(rational.Add, p, wantProduct(t, q, r))
	u := wantProduct(t, a, d)
	v := wantProduct(t, b, c)
	return append(first, wantEach(rational.Add, u, v)...)
}

func wantNorm(t api.Tower, x []api.Rat) []api.Rat {
	h := len(x) / 2
	a, b := x[:h], x[h:]
	r := lifted(t.Radicands[levelOf(x)-1], levelOf(a))
	aa := wantProduct(t, a, a)
	bb := wantProduct(t, b, b)
	return wantEach(rational.Sub, aa, wantProduct(t, bb, r))
}

func wantSign(t api.Tower, x []api.Rat) int {
	checkElements(t, x)
	if len(x) == 1 {
		return rational.Sign(x[0])
	}
	h := len(x) / 2
	m := wantSign(t, x[:h])
	n := wantSign(t, x[h:])
	if n == 0 || n == m {
		return m
	}
	if m == 0 {
		return n
	}
	return m * wantSign(t, wantNorm(t, x))
}

func wantCmp(t api.Tower, x, y []api.Rat) int {
	checkElements(t, x, y)
	return wantSign(t, wantEach(rational.Sub, x, y))
}

func wantInv(t api.Tower, x []api.Rat) []api.Rat {
	refuse(wantSign(t, x) == 0, api.ErrZero)
	return wantInverse(t, x)
}

func wantInverse(t api.Tower, x []api.Rat) []api.Rat {
	if len(x) == 1 {
		return []api.Rat{need(rational.Div(ratio(1, 1), x[0]))}
	}
	j, h := levelOf(x), len(x)/2
	a, b := x[:h], x[h:]
	norm := wantNorm(t, x)
	if wantSign(t, norm) == 0 {
		return lifted(wantInverse(t, wantEach(rational.Add, a, a)), j)
	}
	w := wantInverse(t, norm)
	first := wantProduct(t, a, w)
	bw := wantProduct(t, b, w)
	return append(first, wantEach(rational.Sub, ints(0), bw)...)
}

func wantSqrt(t api.Tower, x []api.Rat) root {
	sign := wantSign(t, x)
	refuse(sign == -1, api.ErrNegative)
	if sign == 0 {
		return root{t, ints(0)}
	}
	rest := 0
	for _, r := range x[1:] {
		if rational.Sign(r) != 0 {
			rest++
		}
	}
	if rest == 0 {
		y, square, e := rational.Sqrt(x[0])
		if refuse(e != api.OK, e); square {
			return root{t, []api.Rat{y}}
		}
	}
	n := len(t.Radicands)
	refuse(n == api.MaxLevels, api.ErrTooBig)
	return root{roots(append(t.Radicands[:n:n], x)...), single(n+1, 1<<n)}
}

func wantFloor(t api.Tower, x []api.Rat, bits int) api.Int {
	checkElements(t, x)
	refuse(bits < -4000 || bits > 4000, api.ErrArg)
	if len(x) == 1 {
		return need(rational.Floor(x[0], bits))
	}
	factor, half := ratio(1, 1), ratio(1, 2)
	for range bits {
		factor = need(rational.Mul(factor, ratio(2, 1)))
	}
	for range -bits {
		factor = need(rational.Mul(factor, half))
	}
	var y []api.Rat
	for _, r := range x {
		y = append(y, need(rational.Mul(r, factor)))
	}
	order := func(n api.Int) int {
		return wantCmp(t, y, []api.Rat{need(rational.Make(n, integer.Of(1)))})
	}
	k := 0
	for {
		power := need(integer.Shift(integer.Of(1), k))
		if order(power) == -1 && order(need(integer.Sub(integer.Of(0), power))) != -1 {
			break
		}
		k++
	}
	hi := need(integer.Shift(integer.Of(1), k))
	lo := need(integer.Sub(integer.Of(0), hi))
	for need(integer.Cmp(need(integer.Sub(hi, lo)), integer.Of(1))) == 1 {
		m, _, e := integer.DivMod(need(integer.Add(lo, hi)), integer.Of(2))
		refuse(e != api.OK, e)
		if order(m) != -1 {
			lo = m
		} else {
			hi = m
		}
	}
	return lo
}

// same compares a call with its contract, and returns its error.
func same[T any](t *testing.T, what string, got T, e api.Errno, contract func() T, equal func(a, b T) bool, about ...string) api.Errno {
	t.Helper()
	want, wantError := expect(contract)
	if e != wantError || !equal(got, want) {
		t.Fatal(what, about, "error", e, "with", got, "and not", wantError, "with", want)
	}
	return e
}

func checkCheck(t *testing.T, u api.Tower) api.Errno {
	t.Helper()
	return same(t, "P5.1: Check", 0, tower.Check(u), func() int { return wantCheck(u) }, equalNumber, towerText(u))
}

func checkAdd(t *testing.T, u api.Tower, x, y []api.Rat) api.Errno {
	t.Helper()
	got, e := tower.Add(u, x, y)
	return same(t, "P5.2: Add", got, e, func() []api.Rat { return wantAdd(u, x, y) }, equal, towerText(u), text(x), text(y))
}

func checkSub(t *testing.T, u api.Tower, x, y []api.Rat) api.Errno {
	t.Helper()
	got, e := tower.Sub(u, x, y)
	return same(t, "P5.2: Sub", got, e, func() []api.Rat { return wantSub(u, x, y) }, equal, towerText(u), text(x), text(y))
}

func checkMul(t *testing.T, u api.Tower, x, y []api.Rat) api.Errno {
	t.Helper()
	got, e := tower.Mul(u, x, y)
	return same(t, "P5.3: Mul", got, e, func() []api.Rat { return wantMul(u, x, y) }, equal, towerText(u), text(x), text(y))
}

func checkSign(t *testing.T, u api.Tower, x []api.Rat) api.Errno {
	t.Helper()
	got, e := tower.Sign(u, x)
	return same(t, "P5.4: Sign", got, e, func() int { return wantSign(u, x) }, equalNumber, towerText(u), text(x))
}

func checkCmp(t *testing.T, u api.Tower, x, y []api.Rat) api.Errno {
	t.Helper()
	got, e := tower.Cmp(u, x, y)
	return same(t, "P5.4: Cmp", got, e, func() int { return wantCmp(u, x, y) }, equalNumber, towerText(u), text(x), text(y))
}

func checkInv(t *testing.T, u api.Tower, x []api.Rat) api.Errno {
	t.Helper()
	got, e := tower.Inv(u, x)
	return same(t, "P5.5: Inv", got, e, func() []api.Rat { return wantInv(u, x) }, equal, towerText(u), text(x))
}

func checkSqrt(t *testing.T, u api.Tower, x []api.Rat) api.Errno {
	t.Helper()
	got, e := sqrt(u, x)
	return same(t, "P5.6: Sqrt", got, e, func() root { return wantSqrt(u, x) }, equalRoot, towerText(u), text(x))
}

func checkFloor(t *testing.T, u api.Tower, x []api.Rat, bits int) api.Errno {
	t.Helper()
	got, e := tower.Floor(u, x, bits)
	return same(t, "P5.7: Floor", got, e, func() api.Int { return wantFloor(u, x, bits) }, equalInt, towerText(u), text(x))
}
