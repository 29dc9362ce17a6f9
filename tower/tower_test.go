package tower_test

import (
	"testing"

	"straightedge/api"
	"straightedge/integer"
	"straightedge/tower"
)

// nested is the tower of the chapter's examples, with a radicand of a lower level above it.
func nested() api.Tower { return read("2", "0 1", "3") }

// squares is a tower whose roots are 2, 3 and 5.
func squares() api.Tower { return read("4", "1 4", "6 6 3 -1/3") }

func TestCheck(t *testing.T) {
	far := wide(limbBits-1, 0)
	tooBig := numbers(far, minus(far))
	for _, x := range []struct {
		tower api.Tower
		want  api.Errno
	}{
		{api.Tower{}, api.OK},
		{roots([][]api.Rat{}...), api.OK},
		{nested(), api.OK},
		{squares(), api.OK},
		{read("1/7"), api.OK},
		{read("2", "3", "5", "7", "11"), api.OK},
		{read("2", "1 1", "1 1 1 1", "1 1 1 1 1 1 1 1", "1 1 1 1 1 1 1 1 1 1 1 1 1 1 1 1"), api.OK},
		{read("1", "1", "1", "1", "1", "1"), api.ErrTooBig},
		// Six radicands are too many, whatever they are.
		{roots(nil, nil, nil, nil, nil, nil), api.ErrTooBig},
		{read("0"), api.ErrArg},
		{read("-1"), api.ErrArg},
		{read("2", "1 -1"), api.ErrArg},
		{read("2", "0 0"), api.ErrArg},
		{read("4", "2 -1"), api.ErrArg},
		{read("4", "-2 1"), api.ErrArg},
		{read("4", "-2 2"), api.OK},
		// An element of a level that is too great, or none.
		{read("2 0"), api.ErrArg},
		{read("2", "1 0 0 0"), api.ErrArg},
		{read("2", "1 2 3"), api.ErrArg},
		{read("2", ""), api.ErrArg},
		{read(""), api.ErrArg},
		// The radicands are examined one after the other.
		{roots(ints(2), tooBig), api.ErrTooBig},
		{roots(ints(2), tooBig, nil), api.ErrTooBig},
		{roots(ints(2), tooBig, ints(-1)), api.ErrTooBig},
		{roots(ints(2), ints(-1), tooBig), api.ErrArg},
		{roots(ints(2), nil, tooBig), api.ErrArg},
		{roots(ints(-1), tooBig), api.ErrArg},
	} {
		if e := tower.Check(x.tower); e != x.want {
			t.Error("P5.1: Check of", towerText(x.tower), e, "and not", x.want)
		}
	}
	for _, bad := range invalidNumbers() {
		for _, u := range []api.Tower{roots([]api.Rat{bad}), roots(ints(2), append(ints(1), bad)), roots(ints(2), []api.Rat{bad, ratio(1, 1)})} {
			if e := tower.Check(u); e != api.ErrArg {
				t.Error("P5.1: Check of", towerText(u), e)
			}
		}
	}
}

func TestValid(t *testing.T) {
	for _, x := range []struct {
		tower api.Tower
		x     []api.Rat
		want  bool
	}{
		{api.Tower{}, ints(0), true},
		{api.Tower{}, ints(1, 2), false},
		{api.Tower{}, nil, false},
		{nested(), ints(1), true},
		{nested(), ints(1, 2), true},
		{nested(), ints(1, 2, 3), false},
		{nested(), ints(1, 2, 3, 4), true},
		{nested(), ints(1, 2, 3, 4, 5, 6), false},
		{nested(), ints(1, 2, 3, 4, 5, 6, 7, 8), true},
		{nested(), single(4, 0), false},
		{nested(), nil, false},
		// A well-shaped tower need not be valid.
		{read("0", "-1 0"), ints(1, 2, 3, 4), true},
		{read("2 0"), ints(1), false},
		{read("2", "1 2 3"), ints(1), false},
		{read("2", ""), ints(1), false},
		{read("1", "1", "1", "1", "1"), single(5, 31), true},
		{read("1", "1", "1", "1", "1"), single(6, 0), false},
		{read("1", "1", "1", "1", "1", "1"), ints(1), false},
	} {
		if tower.Valid(x.tower, x.x) != x.want {
			t.Error("P5.1: Valid of", text(x.x), "in", towerText(x.tower))
		}
	}
	for _, bad := range invalidNumbers() {
		if tower.Valid(read("2"), []api.Rat{bad}) || tower.Valid(read("2"), append(ints(1), bad)) || tower.Valid(roots([]api.Rat{bad}), ints(1)) || tower.Valid(roots(ints(2), append(ints(1), bad)), ints(1)) {
			t.Error("P5.1: Valid with no number:", bad)
		}
	}
}

func TestArithmetic(t *testing.T) {
	for _, x := range []struct{ x, y, sum, difference, product string }{
		{"1/2", "1/3", "5/6", "1/6", "1/6"},
		{"1 1", "1 -1", "2 0", "0 2", "-1 0"},
		{"3", "1/2 1/3", "7/2 1/3", "5/2 -1/3", "3/2 1"},
		{"1/2 1/3", "3", "7/2 1/3", "-5/2 1/3", "3/2 1"},
		{"0 0 1 0", "0 0 1 0", "0 0 2 0", "0 0 0 0", "0 1 0 0"},
		{"1 2 3 4", "1", "2 2 3 4", "0 2 3 4", "1 2 3 4"},
		{"0 1", "0 0 0 1", "0 1 0 1", "0 1 0 -1", "0 0 2 0"},
		{"0 0 0 1", "0 1", "0 1 0 1", "0 -1 0 1", "0 0 2 0"},
		{"1 2 3 4", "5 6 7 8", "6 8 10 12", "-4 -4 -4 -4", "133 101 102 60"},
		{"0 0 0 0 0 0 0 1", "0 0 0 0 0 0 0 1", "0 0 0 0 0 0 0 2", "0 0 0 0 0 0 0 0", "0 6 0 0 0 0 0 0"},
		{"0", "0 0 0 0", "0 0 0 0", "0 0 0 0", "0 0 0 0"},
	} {
		a, e := tower.Add(nested(), element(x.x), element(x.y))
		if e != api.OK || !equal(a, element(x.sum)) {
			t.Error("P5.2: Add of", x.x, "and", x.y, text(a), e)
		}
		b, e := tower.Sub(nested(), element(x.x), element(x.y))
		if e != api.OK || !equal(b, element(x.difference)) {
			t.Error("P5.2: Sub of", x.x, "and", x.y, text(b), e)
		}
		c, e := tower.Mul(nested(), element(x.x), element(x.y))
		if e != api.OK || !equal(c, element(x.product)) {
			t.Error("P5.3: Mul of", x.x, "and", x.y, text(c), e)
		}
	}
}

func TestSign(t *testing.T) {
	for _, x := range []struct {
		tower api.Tower
		x     string
		want  int
	}{
		{api.Tower{}, "0", 0}, {api.Tower{}, "-1/9", -1}, {api.Tower{}, "1/9", 1},
		{nested(), "3 -2", 1}, {nested(), "-3 2", -1}, {nested(), "2 -3", -1}, {nested(), "-2 3", 1},
		{nested(), "0 0", 0}, {nested(), "5 0", 1}, {nested(), "0 -5", -1}, {nested(), "1 1", 1}, {nested(), "-1 -1", -1},
		// The square roots of 2 and of the square root of 2 are a bit greater than 7/5 and 13/11.
		{nested(), "-7 5", 1}, {nested(), "7 -5", -1}, {nested(), "17 -12", 1}, {nested(), "-13 0 11 0", 1}, {nested(), "-25 0 21 0", -1}, {nested(), "0 1 -1 0", 1},
		{nested(), "0 0 0 0 0 0 0 0", 0}, {nested(), "0 0 -1 0 1 0 0 0", 1}, {nested(), "0 0 0 2 -1 0 0 0", 1}, {nested(), "0 0 0 -1 1 0 0 0", 1}, {nested(), "0 0 0 -2 1 0 0 0", -1},
		{read("4"), "2 -1", 0}, {read("4"), "-2 1", 0}, {read("4"), "3 -1", 1}, {read("4"), "1 -1", -1},
		{squares(), "3 0 -1 0", 0}, {squares(), "1 1 -1 0", 0}, {squares(), "-6 0 0 1", 0}, {squares(), "30 0 0 0 0 0 0 -1", 0}, {squares(), "-1 -2 0 0 1 0 0 0", 0}, {squares(), "1 0 0 1 0 -1 0 0", -1}, {squares(), "1/9 0 0 -1/3 0 0 0 1/15", 1},
		// It is computed in this way whether or not the radicands are positive.
		{read("-1"), "1 -1", 1}, {read("-1"), "-1 1", -1}, {read("0"), "0 -1", -1}, {read("0"), "1 -9", 1}, {read("-4", "-1 1"), "1 1 -3 2", -1},
	} {
		if s, e := tower.Sign(x.tower, element(x.x)); e != api.OK || s != x.want {
			t.Error("P5.4: Sign of", x.x, "in", towerText(x.tower), s, e)
		}
	}
}

func TestCmp(t *testing.T) {
	for _, x := range []struct {
		tower api.Tower
		x, y  string
		want  int
	}{
		{api.Tower{}, "1/3", "1/2", -1}, {api.Tower{}, "1/2", "1/2", 0},
		{nested(), "0 1", "7/5", 1}, {nested(), "7/5", "0 1", -1}, {nested(), "0 1 0 0", "0 1", 0}, {nested(), "0 0 1 0", "0 1", -1}, {nested(), "3", "0 0 0 0 0 0 0 1", 1},
		{squares(), "0 1", "2", 0}, {squares(), "0 0 0 1", "0 0 0 0 1 0 0 0", 1}, {squares(), "1 0 0 0 1 0 0 0", "0 0 0 1", 0}, {squares(), "5", "0 0 0 1", -1},
	} {
		if n, e := tower.Cmp(x.tower, element(x.x), element(x.y)); e != api.OK || n != x.want {
			t.Error("P5.4: Cmp of", x.x, "and", x.y, "in", towerText(x.tower), n, e)
		}
		if n, e := tower.Cmp(x.tower, element(x.y), element(x.x)); e != api.OK || n != -x.want {
			t.Error("P5.4: Cmp of", x.y, "and", x.x, "in", towerText(x.tower), n, e)
		}
	}
}

func TestInv(t *testing.T) {
	for _, x := range []struct {
		tower   api.Tower
		x, want string
		e       api.Errno
	}{
		{api.Tower{}, "-2/3", "-3/2", api.OK},
		{api.Tower{}, "0", "", api.ErrZero},
		{nested(), "4", "1/4", api.OK},
		{nested(), "4 0", "1/4 0", api.OK},
		{nested(), "1 1", "-1 1", api.OK},
		{nested(), "0 1", "0 1/2", api.OK},
		{nested(), "0 0 1 0", "0 0 0 1/2", api.OK},
		{nested(), "0 0 0 0 1 0 0 0", "0 0 0 0 1/3 0 0 0", api.OK},
		{nested(), "0 0", "", api.ErrZero},
		{nested(), "0 0 0 0 0 0 0 0", "", api.ErrZero},
		// Where the conjugate is 0, the second half of the result is 0 too.
		{squares(), "2 1", "1/4 0", api.OK},
		{squares(), "2 1 0 0", "1/8 1/16 0 0", api.OK},
		{squares(), "3 0 1 0", "1/6 0 0 0", api.OK},
		{squares(), "1 1 1 0", "-1/6 1/6 0 0", api.OK},
		{squares(), "2 -1", "", api.ErrZero},
		{squares(), "1 1 -1 0", "", api.ErrZero},
		{squares(), "-1 -2 0 0 1 0 0 0", "", api.ErrZero},
		// With a radicand 0, an element whose sign is not 0 may be divided by 0.
		{read("0"), "0 1", "", api.ErrZero},
		{read("0"), "2 1", "1/2 -1/4", api.OK},
		{read("0", "0"), "0 0 0 1", "", api.ErrZero},
		{read("-1"), "1 1", "1/2 -1/2", api.OK},
	} {
		if y, e := tower.Inv(x.tower, element(x.x)); e != x.e || !equal(y, element(x.want)) {
			t.Error("P5.5: Inv of", x.x, "in", towerText(x.tower), text(y), e)
		}
	}
}

func TestSqrt(t *testing.T) {
	five := read("2", "3", "5", "7", "11")
	for _, x := range []struct {
		tower    api.Tower
		x        string
		appended bool
		root     []api.Rat
		e        api.Errno
	}{
		{read("2", "0 1"), "9/4", false, element("3/2"), api.OK},
		{read("2", "0 1"), "9/4 0 0 0", false, element("3/2"), api.OK},
		{read("2", "0 1"), "2", true, single(3, 4), api.OK},
		{read("2", "0 1"), "2 0", true, single(3, 4), api.OK},
		{read("2", "0 1"), "0 1", true, single(3, 4), api.OK},
		{read("2", "0 1"), "9/4 0 1 0", true, single(3, 4), api.OK},
		// A square that is not one of a rational number has a new root.
		{read("2", "0 1"), "3 2", true, single(3, 4), api.OK},
		{read("4"), "0 2", true, single(2, 2), api.OK},
		{api.Tower{}, "3", true, single(1, 1), api.OK},
		{api.Tower{}, "1/4", false, element("1/2"), api.OK},
		{api.Tower{}, "0", false, ints(0), api.OK},
		{read("2", "0 1"), "0 0 0 0", false, ints(0), api.OK},
		{read("4"), "2 -1", false, ints(0), api.OK},
		{read("4"), "-2 1", false, ints(0), api.OK},
		{api.Tower{}, "-1", false, nil, api.ErrNegative},
		{read("2", "0 1"), "-1 0", false, nil, api.ErrNegative},
		{read("2", "0 1"), "1 -1", false, nil, api.ErrNegative},
		{five, "13", false, nil, api.ErrTooBig},
		{five, "1 1", false, nil, api.ErrTooBig},
		{five, "1/4", false, element("1/2"), api.OK},
		{five, "4 0", false, element("2"), api.OK},
		{five, "0 0 0 0", false, ints(0), api.OK},
		{five, "-13", false, nil, api.ErrNegative},
		{roots(five.Radicands[:4]...), "13", true, single(5, 16), api.OK},
	} {
		want := root{x: x.root}
		if x.e == api.OK {
			want.tower.Radicands = append(want.tower.Radicands, x.tower.Radicands...)
		}
		if x.appended {
			want.tower.Radicands = append(want.tower.Radicands, element(x.x))
		}
		if got, e := sqrt(x.tower, element(x.x)); e != x.e || !equalRoot(got, want) {
			t.Error("P5.6: Sqrt of", x.x, "in", towerText(x.tower), towerText(got.tower), text(got.x), e)
		}
	}
}

func TestFloor(t *testing.T) {
	for _, x := range []struct {
		tower api.Tower
		x     string
		bits  int
		want  string
	}{
		{api.Tower{}, "7/2", 0, "3"}, {api.Tower{}, "7/2", 1, "7"}, {api.Tower{}, "-7/2", 0, "-4"}, {api.Tower{}, "-1", -4000, "-1"}, {api.Tower{}, "1", -4000, "0"},
		{nested(), "0 1", 0, "1"}, {nested(), "0 1", 10, "1448"}, {nested(), "0 -1", 0, "-2"}, {nested(), "0 -1", 10, "-1449"}, {nested(), "0 1000", -3, "176"}, {nested(), "0 1", -1, "0"}, {nested(), "0 -1", -9, "-1"},
		{nested(), "0 1/1000", 0, "0"}, {nested(), "0 -1/1000", 0, "-1"}, {nested(), "0 1 1 0", 0, "2"}, {nested(), "0 0 0 0 0 0 0 10", 0, "29"},
		{nested(), "0 0", 0, "0"}, {nested(), "1 0", 0, "1"}, {nested(), "-1 0", 0, "-1"}, {nested(), "2 0", 0, "2"}, {nested(), "-2 0", 0, "-2"}, {nested(), "5 0", 0, "5"}, {nested(), "-5 0", 0, "-5"}, {nested(), "255/256 0", 0, "0"}, {nested(), "-257/256 0", 0, "-2"},
		{squares(), "0 0 0 1", 0, "6"}, {squares(), "1/2 0 0 1", 0, "6"}, {squares(), "-1/2 0 0 1", 0, "5"}, {squares(), "0 1 1 0 1 0 0 0", 4, "160"}, {squares(), "0 -1 -1 0 -1 0 0 0", 4, "-160"}, {squares(), "2 -1", 3, "0"}, {squares(), "0 1", -1, "1"}, {squares(), "0 1/2 0 0", 0, "1"}, {squares(), "0 -1/2 0 0", 0, "-1"},
		{nested(), "0 0 0 0 0 0 0 0", 4000, "0"}, {nested(), "0 0 0 0 0 0 0 0", -4000, "0"},
	} {
		n, e := tower.Floor(x.tower, element(x.x), x.bits)
		if s, _ := integer.Text(n); e != api.OK || s != x.want {
			t.Error("P5.7: Floor of", x.x, x.bits, "in", towerText(x.tower), s, e)
		}
	}
	for _, bits := range []int{-4001, 4001, -1 << 63, 1<<63 - 1} {
		for _, x := range []string{"0", "1", "0 1", "0 0"} {
			if n, e := tower.Floor(nested(), element(x), bits); e != api.ErrArg || !equalInt(n, api.Int{}) {
				t.Error("P5.7: Floor of", x, "with bits", bits, e)
			}
		}
	}
	if _, e := tower.Floor(nested(), element("0 1"), 4000); e != api.ErrTooBig {
		t.Error("P5.7: Floor with 4000 bits:", e)
	}
	if n, e := tower.Floor(nested(), element("0 -1"), -1000); e != api.OK || !equalInt(n, integer.Of(-1)) {
		t.Error("P5.7: Floor with -1000 bits:", n, e)
	}
}

// checkRefused checks that all functions but Check and Valid return ErrArg, and zero values.
func checkRefused(t *testing.T, u api.Tower, x []api.Rat) {
	t.Helper()
	for _, f := range []func(u api.Tower, x, y []api.Rat) ([]api.Rat, api.Errno){tower.Add, tower.Sub, tower.Mul} {
		for _, pair := range [][2][]api.Rat{{x, ints(1)}, {ints(1), x}, {x, x}} {
			if y, e := f(u, pair[0], pair[1]); e != api.ErrArg || len(y) > 0 {
				t.Error("P5.2, P5.3:", text(x), "in", towerText(u), text(y), e)
			}
		}
	}
	if s, e := tower.Sign(u, x); e != api.ErrArg || s != 0 {
		t.Error("P5.4: Sign of", text(x), "in", towerText(u), s, e)
	}
	for _, pair := range [][2][]api.Rat{{x, ints(1)}, {ints(1), x}, {x, x}} {
		if n, e := tower.Cmp(u, pair[0], pair[1]); e != api.ErrArg || n != 0 {
			t.Error("P5.4: Cmp with", text(x), "in", towerText(u), n, e)
		}
	}
	if y, e := tower.Inv(u, x); e != api.ErrArg || len(y) > 0 {
		t.Error("P5.5: Inv of", text(x), "in", towerText(u), text(y), e)
	}
	if y, e := sqrt(u, x); e != api.ErrArg || !equalRoot(y, root{}) {
		t.Error("P5.6: Sqrt of", text(x), "in", towerText(u), y, e)
	}
	for _, bits := range []int{0, 4001} {
		if n, e := tower.Floor(u, x, bits); e != api.ErrArg || !equalInt(n, api.Int{}) {
			t.Error("P5.7: Floor of", text(x), "in", towerText(u), n, e)
		}
	}
}

func TestRefused(t *testing.T) {
	for _, x := range [][]api.Rat{nil, {}, ints(1, 2, 3), ints(0, 0, 0, 0, 0), single(4, 1), single(6, 0)} {
		checkRefused(t, nested(), x)
		checkRefused(t, api.Tower{}, x)
	}
	checkRefused(t, api.Tower{}, ints(1, 2))
	checkRefused(t, read("1", "1", "1", "1", "1"), single(6, 0))
	for _, u := range []api.Tower{read("1", "1", "1", "1", "1", "1"), read("2 0"), read("2", "1 2 3"), read("2", ""), read("2", "1", "1 2 3 4 5 6 7 8")} {
		checkRefused(t, u, ints(1))
		checkRefused(t, u, ints(0))
	}
	for _, bad := range invalidNumbers() {
		checkRefused(t, nested(), []api.Rat{bad})
		checkRefused(t, nested(), append(ints(1, 2, 3), bad))
		checkRefused(t, nested(), []api.Rat{bad, ratio(0, 1)})
		checkRefused(t, roots([]api.Rat{bad}), ints(1))
		checkRefused(t, roots(ints(2), ints(3), append(ints(1), bad)), ints(1))
	}
}
