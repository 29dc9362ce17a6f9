package rational_test

import (
	"math/rand"
	"testing"

	"straightedge/api"
	"straightedge/rational"
)

func TestField(t *testing.T) {
	must := ok(t)
	add := func(x, y api.Rat) api.Rat { return must(rational.Add(x, y)) }
	mul := func(x, y api.Rat) api.Rat { return must(rational.Mul(x, y)) }
	triples(7, func(a, b, c api.Rat) {
		if !same(add(a, b), add(b, a)) || !same(mul(a, b), mul(b, a)) {
			t.Fatal("P2.9: not commutative:", a, b)
		}
		if !same(add(add(a, b), c), add(a, add(b, c))) || !same(mul(mul(a, b), c), mul(a, mul(b, c))) {
			t.Fatal("P2.9: not associative:", a, b, c)
		}
		if !same(mul(a, add(b, c)), add(mul(a, b), mul(a, c))) {
			t.Fatal("P2.9: not distributive:", a, b, c)
		}
		if !same(must(rational.Sub(add(a, b), b)), a) || !same(add(must(rational.Sub(a, b)), b), a) {
			t.Fatal("P2.9: Sub does not reverse Add:", a, b)
		}
		if rational.Sign(b) == 0 {
			return
		}
		if !same(must(rational.Div(mul(a, b), b)), a) || !same(mul(must(rational.Div(a, b)), b), a) {
			t.Fatal("P2.9: Div does not reverse Mul:", a, b)
		}
	})
}

func TestOrder(t *testing.T) {
	must := ok(t)
	order := func(x, y api.Rat) int {
		n, e := rational.Cmp(x, y)
		if e != api.OK {
			t.Fatal("error", e)
		}
		return n
	}
	triples(8, func(a, b, c api.Rat) {
		now := order(a, b)
		if now != -order(b, a) || order(a, a) != 0 || (now == 0) != same(a, b) {
			t.Fatal("P2.10: not an order:", a, b)
		}
		if now == order(b, c) && now != order(a, c) {
			t.Fatal("P2.10: not transitive:", a, b, c)
		}
		if now != rational.Sign(must(rational.Sub(a, b))) {
			t.Fatal("P2.10: the sign of the difference:", a, b)
		}
		if now != order(must(rational.Add(a, c)), must(rational.Add(b, c))) {
			t.Fatal("P2.10: the same number added:", a, b, c)
		}
		left, right := must(rational.Mul(a, c)), must(rational.Mul(b, c))
		if now*rational.Sign(c) != order(left, right) {
			t.Fatal("P2.10: multiplied by the same number:", a, b, c)
		}
	})
}

func TestTextProperties(t *testing.T) {
	source := rand.New(rand.NewSource(9))
	texts := map[string]api.Rat{}
	for _, limbs := range []int{1, 2, 20, api.MaxLimbs} {
		for range 200 {
			a := fromRat(draw(source, limbs))
			text, e := rational.Text(a)
			if e != api.OK {
				t.Fatal("P2.11: error", e)
			}
			if b, e := rational.Parse(text); e != api.OK || !same(a, b) {
				t.Fatal("P2.11: Parse does not read what Text prints:", text, e)
			}
			if b, seen := texts[text]; seen && !same(a, b) {
				t.Fatal("P2.11: two numbers have the text", text)
			}
			texts[text] = a
		}
	}
}
