package realroot_test

import (
	"math/rand"
	"testing"

	"straightedge/api"
	"straightedge/integer"
	"straightedge/rational"
	"straightedge/realroot"
	"straightedge/unipoly"
)

func TestIsolationProperty(t *testing.T) {
	source := rand.New(rand.NewSource(45))
	for _, bits := range []int{2, 5, 20} {
		for range 40 {
			p := product(drawSome(source, 5, bits), drawSome(source, 4, bits))
			l := isolate(t, p)
			if n, e := realroot.All(p); n != len(l) || e != api.OK {
				t.Fatal("P4.9: All of", text(p), n, e, "and not", len(l))
			}
			for i, r := range l {
				if realroot.Check(r) != api.OK || i > 0 && must[int](t)(realroot.Cmp(l[i-1], r)) != -1 {
					t.Fatal("P4.9: the roots of", text(p), i)
				}
			}
			lo, hi := drawNumber(source, 3), drawNumber(source, 3)
			if order(lo, hi) >= 0 {
				continue
			}
			n := 0
			for _, r := range l {
				if must[int](t)(realroot.Cmp(r, exactRoot(lo))) == 1 && must[int](t)(realroot.Cmp(r, exactRoot(hi))) != 1 {
					n++
				}
			}
			if m, e := realroot.Count(p, lo, hi); m != n || e != api.OK {
				t.Fatal("P4.9: Count of", rootText(root(p, lo, hi)), m, e, "and not", n)
			}
		}
	}
}

// exactRoot returns the root of x - n.
func exactRoot(n api.Rat) api.Root { return root(linear(n), n, n) }

// drawRoots returns roots of a few polynomials.
func drawRoots(t *testing.T, source *rand.Rand, bits int) []api.Root {
	t.Helper()
	var l []api.Root
	common := drawSome(source, 4, bits)
	for range 2 {
		l = append(l, isolate(t, product(common, drawSome(source, 4, bits)))...)
	}
	return append(l, exactRoot(drawNumber(source, bits)))
}

func TestOrderProperty(t *testing.T) {
	source := rand.New(rand.NewSource(46))
	equals := 0
	for range 60 {
		l := drawRoots(t, source, 4)
		for _, a := range l {
			for _, b := range l {
				n := must[int](t)(realroot.Cmp(a, b))
				if n != -must[int](t)(realroot.Cmp(b, a)) {
					t.Fatal("P4.10: Cmp of", rootText(a), "and", rootText(b))
				}
				if n == 0 && rootText(a) != rootText(b) {
					equals++
				}
				for _, c := range l {
					if n <= 0 && must[int](t)(realroot.Cmp(b, c)) <= 0 && must[int](t)(realroot.Cmp(a, c)) != min(n, must[int](t)(realroot.Cmp(b, c))) {
						t.Fatal("P4.10: not transitive:", rootText(a), rootText(b), rootText(c))
					}
				}
				bits := source.Intn(20)
				refined := must[api.Root](t)(realroot.Refine(a, bits))
				if must[int](t)(realroot.Cmp(refined, b)) != n || must[int](t)(realroot.Cmp(b, refined)) != -n {
					t.Fatal("P4.10: Cmp of the refined", rootText(refined), "and", rootText(b))
				}
			}
			x := drawNumber(source, 4)
			if must[int](t)(realroot.Cmp(a, exactRoot(x))) != must[int](t)(realroot.SignAt(linear(x), a)) {
				t.Fatal("P4.10: Cmp of", rootText(a), "and", x)
			}
		}
	}
	if equals < 20 {
		t.Error("too few equal roots with different intervals or polynomials:", equals)
	}
}

func TestSignProperty(t *testing.T) {
	source := rand.New(rand.NewSource(47))
	for _, bits := range []int{2, 6, 15} {
		for range 15 {
			for _, r := range drawRoots(t, source, bits) {
				p, q := draw(source, 4, bits), draw(source, 4, bits)
				if source.Intn(4) == 0 {
					p = product(r.Poly, drawSome(source, 2, bits))
				}
				first, second := must[int](t)(realroot.SignAt(p, r)), must[int](t)(realroot.SignAt(q, r))
				if s, e := realroot.SignAt(product(p, q), r); s != first*second || e != api.OK {
					t.Fatal("P4.11: SignAt of a product:", text(p), text(q), rootText(r))
				}
				if s, e := realroot.SignAt(r.Poly, r); s != 0 || e != api.OK {
					t.Fatal("P4.11: SignAt of Poly:", rootText(r), s, e)
				}
				places := source.Intn(40)
				n := must[api.Int](t)(realroot.Floor(r, places))
				above := must[api.Int](t)(integer.Add(n, integer.Of(1)))
				if must[int](t)(realroot.SignAt(shiftedLine(n, places), r)) == -1 || must[int](t)(realroot.SignAt(shiftedLine(above, places), r)) != -1 {
					t.Fatal("P4.11: Floor of", rootText(r), places, n)
				}
			}
		}
	}
}

// shiftedLine returns x - n / 2^bits.
func shiftedLine(n api.Int, bits int) []api.Rat {
	den, _ := integer.Shift(integer.Of(1), bits)
	return linear(need(rational.Make(n, den)))
}

func TestFibreProperty(t *testing.T) {
	source := rand.New(rand.NewSource(48))
	for range 60 {
		var p, constants [][]api.Rat
		for range 1 + source.Intn(4) {
			p, constants = append(p, draw(source, 3, 3)), append(constants, draw(source, 1, 3))
		}
		x := drawNumber(source, 3)
		compareWithAll(t, p, x, root(product(linear(x), ints(1, 0, 1)), x, x))
		compareWithAll(t, constants, x, between(square, "0", "4"))
		// The same number as the only root of x - n in an interval.
		below, above := need(unipoly.Eval(ints(-1, 1), x)), need(unipoly.Eval(ints(2, 1), x))
		compareWithAll(t, p, x, root(linear(x), below, above))
	}
}

// compareWithAll checks that the fibre at r is All of the polynomial of the values at x.
func compareWithAll(t *testing.T, p [][]api.Rat, x api.Rat, r api.Root) {
	t.Helper()
	var values []api.Rat
	for _, q := range p {
		values = append(values, need(unipoly.Eval(q, x)))
	}
	for len(values) > 0 && len(values[len(values)-1].Num.Mag) == 0 {
		values = values[:len(values)-1]
	}
	want, wantError := realroot.All(values)
	if n, e := realroot.Fibre(p, r); n != want || e != wantError {
		t.Fatal("P4.12: Fibre at", rootText(r), "of", text(values), n, e, "and not", want, wantError)
	}
}
