package rational_test

import (
	"math/big"
	"math/rand"
	"testing"

	"straightedge/api"
	"straightedge/rational"
)

func TestSimplestExamples(t *testing.T) {
	for _, x := range []struct{ a, b, want *big.Rat }{
		{fraction(1, 3), fraction(1, 2), fraction(2, 5)},
		{fraction(-1, 2), fraction(5, 2), fraction(0, 1)},
		{fraction(3, 2), fraction(19, 2), fraction(2, 1)},
		{fraction(-19, 2), fraction(-3, 2), fraction(-2, 1)},
		{fraction(0, 1), fraction(9, 1), fraction(1, 1)},
		{fraction(-9, 1), fraction(0, 1), fraction(-1, 1)},
		{fraction(0, 1), fraction(1, 1), fraction(1, 2)},
		{fraction(-1, 1), fraction(1, 1), fraction(0, 1)},
		{fraction(-3, 1), fraction(-2, 1), fraction(-5, 2)},
		{fraction(0, 1), fraction(1, 7), fraction(1, 8)},
		{fraction(6, 7), fraction(1, 1), fraction(7, 8)},
	} {
		got, e := rational.Simplest(fromRat(x.a), fromRat(x.b))
		checkRat(t, "P2.6: Simplest", got, e, x.want, x.a, x.b)
	}
}

// search returns the simplest number between x and y by trying all denominators.
func search(x, y *big.Rat) *big.Rat {
	for den := int64(1); ; den++ {
		from := floor(new(big.Rat).Mul(x, fraction(den, 1)), 0)
		var best *big.Rat
		for num := from; ; num = new(big.Int).Add(num, big.NewInt(1)) {
			r := over(num, big.NewInt(den))
			if r.Cmp(y) >= 0 {
				break
			}
			if r.Cmp(x) > 0 && (best == nil || new(big.Rat).Abs(r).Cmp(new(big.Rat).Abs(best)) < 0) {
				best = r
			}
		}
		if best != nil {
			return best
		}
	}
}

func TestSimplestBySearch(t *testing.T) {
	var numbers []*big.Rat
	for d := int64(1); d <= 9; d++ {
		for n := -2 * d; n <= 2*d; n++ {
			if x := fraction(n, d); x.Denom().Int64() == d {
				numbers = append(numbers, x)
			}
		}
	}
	for _, x := range numbers {
		for _, y := range numbers {
			got, e := rational.Simplest(fromRat(x), fromRat(y))
			if x.Cmp(y) >= 0 {
				checkFailure(t, "P2.6: Simplest", got, e, api.ErrArg, x, y)
				continue
			}
			checkRat(t, "P2.6: Simplest", got, e, search(x, y), x, y)
		}
	}
}

// isSimplest reports whether r is the simplest number between x and y. All numbers with a denominator that is not greater than that of r lie at or beyond its two neighbours in Farey's sequence.
func isSimplest(r, x, y *big.Rat) bool {
	if r.Cmp(x) <= 0 || r.Cmp(y) >= 0 {
		return false
	}
	p, q := r.Num(), r.Denom()
	one := big.NewInt(1)
	if q.Cmp(one) == 0 {
		return p.Sign() == 0 ||
			p.Sign() > 0 && over(new(big.Int).Sub(p, one), one).Cmp(x) <= 0 ||
			p.Sign() < 0 && over(new(big.Int).Add(p, one), one).Cmp(y) >= 0
	}
	lowDen := new(big.Int).ModInverse(new(big.Int).Mod(p, q), q)
	lowNum := new(big.Int).Mul(p, lowDen)
	lowNum.Sub(lowNum, one).Quo(lowNum, q)
	low := over(lowNum, lowDen)
	high := over(new(big.Int).Sub(p, lowNum), new(big.Int).Sub(q, lowDen))
	return low.Cmp(x) <= 0 && high.Cmp(y) >= 0
}

// checkSimplest checks one call whose result is not too big.
func checkSimplest(t *testing.T, x, y *big.Rat) {
	t.Helper()
	got, e := rational.Simplest(fromRat(x), fromRat(y))
	if e != api.OK || !rational.Valid(got) || !isSimplest(toRat(got), x, y) {
		t.Fatalf("P2.12: Simplest(%v, %v): error %d with %v", x, y, e, got)
	}
	minus, e := rational.Simplest(fromRat(new(big.Rat).Neg(y)), fromRat(new(big.Rat).Neg(x)))
	checkRat(t, "P2.12: Simplest of the negatives", minus, e, new(big.Rat).Neg(toRat(got)), x, y)
}

func TestSimplest(t *testing.T) {
	source := rand.New(rand.NewSource(5))
	for _, limbs := range []int{1, 2, 5, 40, api.MaxLimbs/2 - 1} {
		for range 100 {
			x, y := draw(source, limbs), draw(source, limbs)
			// A close neighbour has a long expansion.
			near := new(big.Rat).Add(x, over(big.NewInt(1), power(20*limbs+source.Intn(12*limbs), 0)))
			if fits(near.Num(), near.Denom()) {
				checkSimplest(t, x, near)
			}
			if x.Cmp(y) < 0 {
				checkSimplest(t, x, y)
			} else if x.Cmp(y) > 0 {
				checkSimplest(t, y, x)
			}
		}
	}
}

// mediant returns the number between two neighbours in Farey's sequence whose denominator is the least.
func mediant(x, y *big.Rat) *big.Rat {
	return over(new(big.Int).Add(x.Num(), y.Num()), new(big.Int).Add(x.Denom(), y.Denom()))
}

func TestSimplestAtTheLimit(t *testing.T) {
	one := big.NewInt(1)
	pairs := append(neighbours(), [][2]*big.Rat{
		// The results are at the limit, or just beyond it.
		{over(power(maxBits, -3), one), over(power(maxBits, -1), one)},
		{over(power(maxBits, -2), one), over(power(maxBits, -1), one)},
		{over(power(maxBits-1, -1), one), over(power(maxBits-1, 0), one)},
		{over(power(maxBits-1, 0), one), over(power(maxBits-1, 1), one)},
		{fraction(0, 1), over(one, power(maxBits, -2))},
		{fraction(0, 1), over(one, power(maxBits, -1))},
		{over(power(maxBits, -3), power(maxBits, -2)), fraction(1, 1)},
		{over(power(maxBits, -2), power(maxBits, -1)), fraction(1, 1)},
	}...)
	reached, beyond := 0, 0
	for _, p := range pairs {
		x, y := p[0], p[1]
		want := mediant(x, y)
		if !isSimplest(want, x, y) {
			t.Fatal("no neighbours:", x, y)
		}
		if fits(want.Num(), want.Denom()) {
			reached++
			checkSimplest(t, x, y)
			continue
		}
		beyond++
		got, e := rational.Simplest(fromRat(x), fromRat(y))
		checkFailure(t, "P2.6: Simplest", got, e, api.ErrTooBig, x, y)
		got, e = rational.Simplest(fromRat(new(big.Rat).Neg(y)), fromRat(new(big.Rat).Neg(x)))
		checkFailure(t, "P2.6: Simplest of the negatives", got, e, api.ErrTooBig, x, y)
	}
	if reached < 4 || beyond < 8 {
		t.Error("P2.6: too few pairs at the limit and beyond it:", reached, beyond)
	}
}

func TestSimplestArguments(t *testing.T) {
	for _, x := range edges() {
		for _, y := range edges() {
			if x.Cmp(y) >= 0 {
				got, e := rational.Simplest(fromRat(x), fromRat(y))
				checkFailure(t, "P2.6: Simplest", got, e, api.ErrArg, x, y)
			}
		}
	}
}
