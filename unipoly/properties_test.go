package unipoly_test

import (
	"math/big"
	"math/rand"
	"testing"

	"straightedge/api"
	"straightedge/rational"
	"straightedge/unipoly"
)

// triples calls f for triples of polynomials with which several operations do not get too big.
func triples(seed int64, f func(p, q, s []api.Rat)) {
	source := rand.New(rand.NewSource(seed))
	for _, bits := range []int{2, 30, 70} {
		for range 60 {
			f(fromList(draw(source, 5, bits)), fromList(draw(source, 5, bits)), fromList(draw(source, 5, bits)))
		}
	}
}

func TestRing(t *testing.T) {
	ok := must(t)
	add := func(p, q []api.Rat) []api.Rat { return ok(unipoly.Add(p, q)) }
	sub := func(p, q []api.Rat) []api.Rat { return ok(unipoly.Sub(p, q)) }
	mul := func(p, q []api.Rat) []api.Rat { return ok(unipoly.Mul(p, q)) }
	unit := fromList(ints(1))
	triples(3, func(p, q, s []api.Rat) {
		if !same(add(p, q), add(q, p)) || !same(mul(p, q), mul(q, p)) {
			t.Fatal("P3.12: not commutative:", p, q)
		}
		if !same(add(add(p, q), s), add(p, add(q, s))) || !same(mul(mul(p, q), s), mul(p, mul(q, s))) {
			t.Fatal("P3.12: not associative:", p, q, s)
		}
		if !same(mul(p, add(q, s)), add(mul(p, q), mul(p, s))) || !same(mul(p, sub(q, s)), sub(mul(p, q), mul(p, s))) {
			t.Fatal("P3.12: not distributive:", p, q, s)
		}
		if !same(add(p, nil), p) || !same(mul(p, unit), p) || len(mul(p, nil)) != 0 {
			t.Fatal("P3.12: 0 and 1:", p)
		}
		if !same(sub(add(p, q), q), p) || len(sub(p, p)) != 0 || !same(sub(p, q), add(p, sub(nil, q))) {
			t.Fatal("P3.12: Sub is not the sum with the negative:", p, q)
		}
	})
}

func TestHomomorphisms(t *testing.T) {
	ok, number := must(t), mustNumber(t)
	source := rand.New(rand.NewSource(4))
	triples(5, func(p, q, s []api.Rat) {
		sum, product := ok(unipoly.Add(p, q)), ok(unipoly.Mul(p, q))
		x := fromRat(drawNumber(source, 60))
		atP, atQ := number(unipoly.Eval(p, x)), number(unipoly.Eval(q, x))
		if !sameNumber(number(unipoly.Eval(sum, x)), number(rational.Add(atP, atQ))) || !sameNumber(number(unipoly.Eval(product, x)), number(rational.Mul(atP, atQ))) {
			t.Fatal("P3.12: Eval is no homomorphism:", p, q, x)
		}
		inP, inQ := ok(unipoly.Compose(p, s)), ok(unipoly.Compose(q, s))
		if !same(ok(unipoly.Compose(sum, s)), ok(unipoly.Add(inP, inQ))) || !same(ok(unipoly.Compose(product, s)), ok(unipoly.Mul(inP, inQ))) {
			t.Fatal("P3.12: Compose is no homomorphism:", p, q, s)
		}
		if !sameNumber(number(unipoly.Eval(inP, x)), number(unipoly.Eval(p, number(unipoly.Eval(s, x))))) {
			t.Fatal("P3.10: Compose is not p(s(x)):", p, s, x)
		}
		line := fromList(ints(0, 1))
		if !same(ok(unipoly.Compose(p, line)), p) || !same(ok(unipoly.Compose(line, p)), p) {
			t.Fatal("P3.10: Compose with x:", p)
		}
	})
}

func TestDerivatives(t *testing.T) {
	ok := must(t)
	triples(6, func(p, q, _ []api.Rat) {
		left := ok(unipoly.Derivative(ok(unipoly.Mul(p, q))))
		first := ok(unipoly.Mul(ok(unipoly.Derivative(p)), q))
		second := ok(unipoly.Mul(p, ok(unipoly.Derivative(q))))
		if !same(left, ok(unipoly.Add(first, second))) {
			t.Fatal("P3.6: the derivative of a product:", p, q)
		}
	})
	for _, x := range []struct{ p, want list }{
		{nil, nil}, {coefs("-2/3"), nil}, {coefs("7", "-2/3"), coefs("-2/3")}, {coefs("0", "0", "1/2", "0", "-3"), ints(0, 1, 0, -12)},
	} {
		p, e := unipoly.Derivative(fromList(x.p))
		checkList(t, "P3.6: Derivative", p, e, x.want)
	}
}

func TestDivision(t *testing.T) {
	ok := must(t)
	source := rand.New(rand.NewSource(7))
	for _, bits := range []int{2, 20, 60} {
		for range 150 {
			q := fromList(drawSome(source, 5, bits))
			p := fromList(draw(source, 8, bits))
			quot, rest, e := unipoly.DivMod(p, q)
			if e != api.OK || len(rest) >= len(q) || !same(ok(unipoly.Add(ok(unipoly.Mul(q, quot)), rest)), p) {
				t.Fatal("P3.13: no division:", p, q, quot, rest, e)
			}
			// The only quotient and remainder are those of which the dividend is made.
			a, r := fromList(draw(source, 4, bits)), fromList(draw(source, len(q)-1, bits))
			p = ok(unipoly.Add(ok(unipoly.Mul(q, a)), r))
			quot, rest, e = unipoly.DivMod(p, q)
			if e != api.OK || !same(quot, a) || !same(rest, r) {
				t.Fatal("P3.13: another division:", p, q, quot, rest, e)
			}
		}
	}
}

// divides reports whether p divides q.
func divides(t *testing.T, p, q []api.Rat) bool {
	t.Helper()
	if len(p) == 0 {
		return len(q) == 0
	}
	_, rest, e := unipoly.DivMod(q, p)
	if e != api.OK {
		t.Fatal("error", e)
	}
	return len(rest) == 0
}

func isMonic(p []api.Rat) bool {
	return len(p) > 0 && sameNumber(p[len(p)-1], fromRat(big.NewRat(1, 1)))
}

func TestDivisors(t *testing.T) {
	ok, number := must(t), mustNumber(t)
	source := rand.New(rand.NewSource(8))
	positive := 0
	for _, bits := range []int{2, 10, 25} {
		for range 80 {
			common := fromList(drawSome(source, 3, bits))
			p, q := ok(unipoly.Mul(common, fromList(draw(source, 4, bits)))), ok(unipoly.Mul(common, fromList(draw(source, 4, bits))))
			g := ok(unipoly.GCD(p, q))
			if !divides(t, g, p) || !divides(t, g, q) || !divides(t, common, g) {
				t.Fatal("P3.14: not the greatest common divisor:", p, q, g)
			}
			if len(p)+len(q) == 0 {
				continue
			}
			if !isMonic(g) || !same(g, ok(unipoly.GCD(q, p))) {
				t.Fatal("P3.5: not monic:", p, q, g)
			}
			if len(p) == 0 || len(q) == 0 {
				continue
			}
			v := number(unipoly.Resultant(p, q))
			if (rational.Sign(v) == 0) != (len(g) > 1) {
				t.Fatal("P3.14: the resultant and the common divisor:", p, q, v, g)
			}
			if len(g) > 1 {
				positive++
			}
		}
	}
	if positive < 50 || positive > 190 {
		t.Error("too few of one kind:", positive)
	}
}

// sylvester returns the determinant of the Sylvester matrix of two polynomials that are not zero.
func sylvester(p, q list) *big.Rat {
	side := len(p) - 1 + len(q) - 1
	var matrix []list
	for _, x := range []struct {
		l     list
		count int
	}{{p, len(q) - 1}, {q, len(p) - 1}} {
		for shift := range x.count {
			row := make(list, side)
			for i := range row {
				row[i] = new(big.Rat).Set(at(x.l, len(x.l)-1-i+shift))
			}
			matrix = append(matrix, row)
		}
	}
	result := big.NewRat(1, 1)
	for column := range side {
		found := column
		for found < side && matrix[found][column].Sign() == 0 {
			found++
		}
		if found == side {
			return new(big.Rat)
		}
		if found != column {
			matrix[found], matrix[column] = matrix[column], matrix[found]
			result.Neg(result)
		}
		result.Mul(result, matrix[column][column])
		for i := column + 1; i < side; i++ {
			factor := new(big.Rat).Quo(matrix[i][column], matrix[column][column])
			for j := column; j < side; j++ {
				matrix[i][j].Sub(matrix[i][j], new(big.Rat).Mul(factor, matrix[column][j]))
			}
		}
	}
	return result
}

func TestResultantIsDeterminant(t *testing.T) {
	source := rand.New(rand.NewSource(9))
	for _, bits := range []int{2, 6, 12} {
		for range 150 {
			p, q := drawSome(source, 6, bits), drawSome(source, 6, bits)
			v, e := unipoly.Resultant(fromList(p), fromList(q))
			checkNumber(t, "P3.9: Resultant", v, e, sylvester(p, q))
		}
	}
	for _, p := range corners()[1:18] {
		for _, q := range corners()[1:18] {
			v, e := unipoly.Resultant(fromList(p), fromList(q))
			checkNumber(t, "P3.9: Resultant", v, e, sylvester(p, q))
		}
	}
}

func TestResultantOfProducts(t *testing.T) {
	ok, number := must(t), mustNumber(t)
	source := rand.New(rand.NewSource(10))
	for _, bits := range []int{2, 15, 30} {
		for range 60 {
			p, q, s := fromList(drawSome(source, 4, bits)), fromList(drawSome(source, 4, bits)), fromList(drawSome(source, 4, bits))
			product := ok(unipoly.Mul(p, q))
			apart := number(rational.Mul(number(unipoly.Resultant(p, s)), number(unipoly.Resultant(q, s))))
			if !sameNumber(number(unipoly.Resultant(product, s)), apart) {
				t.Fatal("P3.14: not multiplicative in the first argument:", p, q, s)
			}
			apart = number(rational.Mul(number(unipoly.Resultant(s, p)), number(unipoly.Resultant(s, q))))
			if !sameNumber(number(unipoly.Resultant(s, product)), apart) {
				t.Fatal("P3.14: not multiplicative in the second argument:", p, q, s)
			}
		}
	}
}

func TestSquarefreeProducts(t *testing.T) {
	source := rand.New(rand.NewSource(11))
	// No two of these have a complex root in common, and none has a double one.
	primes := []list{ints(0, 1), ints(-1, 1), coefs("2/3", "1"), ints(1, 0, 1), ints(-2, 0, 1), ints(1, 1, 1), ints(-2, 0, 0, 1)}
	for range 150 {
		whole, once := list{drawSome(source, 1, 20)[0]}, ints(1)
		for _, p := range primes {
			times := source.Intn(4) * source.Intn(2)
			if times == 0 || len(once) > 6 {
				continue
			}
			once = unbounded(once, p)
			for range times {
				whole = unbounded(whole, p)
			}
		}
		got, e := unipoly.Squarefree(fromList(whole))
		checkList(t, "P3.8: Squarefree", got, e, once)
	}
	for _, p := range []list{ints(1), ints(-7), coefs("2/3")} {
		got, e := unipoly.Squarefree(fromList(p))
		checkList(t, "P3.8: Squarefree of a constant", got, e, ints(1))
	}
}

func TestEvalExamples(t *testing.T) {
	for _, x := range []struct {
		p    list
		x    string
		want string
	}{
		{nil, "5", "0"}, {coefs("-2/3"), "5", "-2/3"}, {ints(1, 2, 3), "0", "1"}, {ints(1, 2, 3), "-1", "2"}, {ints(1, 2, 3), "1/2", "11/4"}, {full(api.MaxDegree + 1), "1", "65"},
	} {
		v, e := unipoly.Eval(fromList(x.p), fromRat(coefs(x.x)[0]))
		checkNumber(t, "P3.7: Eval", v, e, coefs(x.want)[0])
	}
}
