package multipoly_test

import (
	"slices"
	"testing"

	"straightedge/api"
	"straightedge/multipoly"
)

const mark = 0x5bcdef01

// roomyInt returns a copy with marked spare capacity.
func roomyInt(n api.Int) api.Int {
	return api.Int{Neg: n.Neg, Mag: append(slices.Clone(n.Mag), mark, mark)[:len(n.Mag)]}
}

// roomy returns a copy with marked spare capacity, its own and that of the terms.
func roomy(p []api.Term) []api.Term {
	var l []api.Term
	for _, term := range p {
		l = append(l, api.Term{Coef: roomyInt(term.Coef), Exps: append(slices.Clone(term.Exps), mark, mark)[:len(term.Exps)]})
	}
	spare := api.Term{Coef: api.Int{Neg: true, Mag: []uint32{mark, 0}}, Exps: []int{mark}}
	return append(l, spare, spare)[:len(l)]
}

// contents returns a copy of everything that a polynomial refers to, spare capacity too.
func contents(p []api.Term) []api.Term {
	var l []api.Term
	for _, term := range p[:cap(p)] {
		l = append(l, api.Term{
			Coef: api.Int{Neg: term.Coef.Neg, Mag: slices.Clone(term.Coef.Mag[:cap(term.Coef.Mag)])},
			Exps: slices.Clone(term.Exps[:cap(term.Exps)]),
		})
	}
	return l
}

// spoil overwrites everything that a polynomial refers to, and reports whether some memory is referred to twice.
func spoil(p []api.Term) bool {
	twice := false
	for _, term := range p[:cap(p)] {
		limbs, exps := term.Coef.Mag[:cap(term.Coef.Mag)], term.Exps[:cap(term.Exps)]
		for i := range limbs {
			twice = twice || limbs[i] == mark
			limbs[i] = mark
		}
		for i := range exps {
			twice = twice || exps[i] == mark
			exps[i] = mark
		}
	}
	for i := range p[:cap(p)] {
		p[:cap(p)][i].Coef = api.Int{}
	}
	return twice
}

// results returns the polynomials that the functions return for two polynomials.
func results(p, q []api.Term) map[string][]api.Term {
	l := map[string][]api.Term{}
	l["Add"], _ = multipoly.Add(p, q)
	l["Sub"], _ = multipoly.Sub(p, q)
	l["Mul"], _ = multipoly.Mul(p, q)
	l["Coeff, 0"], _ = multipoly.Coeff(p, 0, 0)
	l["Coeff, 1"], _ = multipoly.Coeff(p, 0, 1)
	l["Coeff, unused"], _ = multipoly.Coeff(p, 31, 0)
	l["Primitive"], _ = multipoly.Primitive(p)
	l["PseudoDiv, a"], l["PseudoDiv, r"], _, _ = multipoly.PseudoDiv(p, q, 0)
	return l
}

func TestMemory(t *testing.T) {
	for _, x := range [][2]string{
		{"0", "0"}, {"x0", "0"}, {"0", "x0"}, {"x0", "x0"}, {"7", "5"}, {"x0 + x1 + 1", "x0 - x1"}, {"x0^3 + x0^2*x1 + 5", "x1*x0^2 + 3"},
		{"x1 + 3", "x0"}, {"x0 + 3", "x0^2 + 3"}, {"2^100*x0^2 - 2^70*x1 + 2^65", "2^90*x0 + 2^70*x2"}, {"x31*x0 + x31", "x31 + x0"}, {"6*x0^2 + 4*x0*x1^2 - 2", "4*x0 - 2*x1"},
	} {
		p, q := poly(x[0]), poly(x[1])
		want := results(p, q)
		roomyP, roomyQ := roomy(p), roomy(q)
		beforeP, beforeQ := contents(roomyP), contents(roomyQ)
		got := results(roomyP, roomyQ)
		if !equal(contents(roomyP), beforeP) || !equal(contents(roomyQ), beforeQ) {
			t.Error("W6: an argument is modified:", x)
		}
		spoil(roomyP)
		spoil(roomyQ)
		for name, l := range got {
			if !equal(l, want[name]) {
				t.Error("W6: a result shares memory with an argument:", name, x)
			}
		}
		var all []api.Term
		for _, l := range got {
			all = append(all, l[:cap(l)]...)
		}
		if spoil(all[:len(all):len(all)]) {
			t.Error("W6: slices of results share memory:", x)
		}
		for name, l := range results(p, q) {
			if !equal(l, want[name]) {
				t.Error("W6: two calls share memory:", name, x)
			}
		}
	}
}

// TestOneArgument passes the same memory twice, and terms that share their memory.
func TestOneArgument(t *testing.T) {
	exps := []int{3, 2, 1}
	coef := multipoly.Const(6)[0].Coef
	p := []api.Term{{Coef: coef, Exps: exps[2:]}, {Coef: coef, Exps: exps[1:]}, {Coef: coef, Exps: exps}}
	checkAdd(t, p, p)
	checkSub(t, p, p)
	checkMul(t, p, p)
	checkDiv(t, p, p, 0)
	checkDiv(t, p, p[1:], 0)
	checkPrimitive(t, p)
	got, _ := multipoly.Primitive(p)
	if spoil(got) || !slices.Equal(exps, []int{3, 2, 1}) || !equalInt(coef, multipoly.Const(6)[0].Coef) {
		t.Error("W6: Primitive returns memory of its argument")
	}
	_, r, _, _ := multipoly.PseudoDiv(p, poly("x0^9"), 0)
	if spoil(r) || !slices.Equal(exps, []int{3, 2, 1}) || !equalInt(coef, multipoly.Const(6)[0].Coef) {
		t.Error("W6: PseudoDiv returns memory of its argument")
	}
}

// TestMemoryOfValues checks Eval, EvalMod, Const and Var.
func TestMemoryOfValues(t *testing.T) {
	p, at, residues := roomy(multipoly.Const(12)), numbers("1/2"), []int{5, mark}[:1]
	at[0] = api.Rat{Num: roomyInt(at[0].Num), Den: roomyInt(at[0].Den)}
	for _, q := range [][]api.Term{p, roomy(poly("x0")), roomy(poly("2^80*x0 + 1"))} {
		before := contents(q)
		v := must[api.Rat](t)(multipoly.Eval(q, at))
		must[int](t)(multipoly.EvalMod(q, residues, 7))
		if !equal(contents(q), before) || !slices.Equal(residues[:2], []int{5, mark}) || !equalRat(at[0], numbers("1/2")[0]) {
			t.Error("W6: an argument is modified")
		}
		text := numberText(v)
		spoil(q)
		if numberText(v) != text {
			t.Error("W6: a value shares memory with the polynomial:", text)
		}
	}
	v := must[api.Rat](t)(multipoly.Eval(poly("x0"), at))
	at[0].Num.Mag[0], at[0].Den.Mag[0] = mark, mark
	if numberText(v) != "1/2" {
		t.Error("W6: a value shares memory with the numbers:", numberText(v))
	}
	spoil(multipoly.Const(7))
	x, _ := multipoly.Var(3)
	spoil(x)
	if y, _ := multipoly.Var(3); !equal(multipoly.Const(7), poly("7")) || !equal(y, poly("x3")) {
		t.Error("W6: two calls of Const or Var share memory")
	}
}
