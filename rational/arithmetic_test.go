package rational_test

import (
	"math/big"
	"testing"

	"straightedge/api"
	"straightedge/rational"
)

// operation is one of the four operations, with the numbers that it computes in their order: the last two are the numerator and the denominator of its result.
type operation struct {
	name  string
	do    func(a, b api.Rat) (api.Rat, api.Errno)
	terms func(x, y *big.Rat) []*big.Int
}

func operations() []operation {
	mul := func(x, y *big.Int) *big.Int { return new(big.Int).Mul(x, y) }
	return []operation{
		{"Add", rational.Add, func(x, y *big.Rat) []*big.Int {
			left, right := mul(x.Num(), y.Denom()), mul(y.Num(), x.Denom())
			return []*big.Int{left, right, new(big.Int).Add(left, right), mul(x.Denom(), y.Denom())}
		}},
		{"Sub", rational.Sub, func(x, y *big.Rat) []*big.Int {
			left, right := mul(x.Num(), y.Denom()), mul(y.Num(), x.Denom())
			return []*big.Int{left, right, new(big.Int).Sub(left, right), mul(x.Denom(), y.Denom())}
		}},
		{"Mul", rational.Mul, func(x, y *big.Rat) []*big.Int {
			return []*big.Int{mul(x.Num(), y.Num()), mul(x.Denom(), y.Denom())}
		}},
		{"Div", rational.Div, func(x, y *big.Rat) []*big.Int {
			return []*big.Int{mul(x.Num(), y.Denom()), mul(x.Denom(), y.Num())}
		}},
	}
}

// checkOperation checks one call.
func checkOperation(t *testing.T, o operation, x, y *big.Rat) {
	t.Helper()
	got, e := o.do(fromRat(x), fromRat(y))
	terms := o.terms(x, y)
	num, den := terms[len(terms)-2], terms[len(terms)-1]
	switch {
	case den.Sign() == 0:
		checkFailure(t, "P2.2: "+o.name, got, e, api.ErrZero, x, y)
	case !fits(terms...):
		checkFailure(t, "P2.2: "+o.name, got, e, api.ErrTooBig, x, y)
	default:
		checkRat(t, "P2.2: "+o.name, got, e, over(num, den), x, y)
	}
}

func TestOperations(t *testing.T) {
	for _, o := range operations() {
		pairs(func(x, y *big.Rat) { checkOperation(t, o, x, y) })
	}
}

func TestOperationExamples(t *testing.T) {
	for _, x := range []struct {
		name       string
		do         func(a, b api.Rat) (api.Rat, api.Errno)
		a, b, want *big.Rat
	}{
		{"Add", rational.Add, fraction(1, 2), fraction(1, 3), fraction(5, 6)},
		{"Sub", rational.Sub, fraction(1, 2), fraction(1, 2), fraction(0, 1)},
		{"Mul", rational.Mul, fraction(-2, 3), fraction(3, 2), fraction(-1, 1)},
		{"Div", rational.Div, fraction(3, 4), fraction(-1, 2), fraction(-3, 2)},
	} {
		got, e := x.do(fromRat(x.a), fromRat(x.b))
		checkRat(t, "P2.2: "+x.name, got, e, x.want, x.a, x.b)
	}
}

func TestLimitOfOperations(t *testing.T) {
	one := big.NewInt(1)
	wide, threes := power(3000, 0), new(big.Int).Exp(big.NewInt(3), big.NewInt(1800), nil)
	for _, x := range []struct {
		name string
		do   func(a, b api.Rat) (api.Rat, api.Errno)
		a, b *big.Rat
	}{
		// The results in lowest terms would be 1, 1, 0, 2 / wide and 1.
		{"Mul", rational.Mul, over(wide, threes), over(threes, wide)},
		{"Div", rational.Div, over(wide, threes), over(wide, threes)},
		{"Sub", rational.Sub, over(one, wide), over(one, wide)},
		{"Add", rational.Add, over(one, wide), over(one, wide)},
		{"Add", rational.Add, over(wide, threes), over(new(big.Int).Sub(threes, wide), threes)},
		// Only the sum, the numerator and the denominator are too big.
		{"Add", rational.Add, over(power(maxBits-1, 0), one), over(power(maxBits-1, 0), one)},
		{"Sub", rational.Sub, over(power(maxBits, -1), one), fraction(-1, 1)},
		{"Mul", rational.Mul, over(power(maxBits/2, 0), one), over(power(maxBits/2, 0), one)},
		{"Mul", rational.Mul, over(one, power(maxBits/2, 0)), over(one, power(maxBits/2, 0))},
		{"Div", rational.Div, fraction(1, 3), over(power(maxBits-1, 0), one)},
	} {
		got, e := x.do(fromRat(x.a), fromRat(x.b))
		checkFailure(t, "P2.2: the limit of "+x.name, got, e, api.ErrTooBig, x.a, x.b)
	}
	// At the limit, and back within it after a product.
	most := over(power(maxBits, -1), one)
	less := over(power(maxBits, -2), one)
	got, e := rational.Add(fromRat(less), fromRat(fraction(1, 1)))
	checkRat(t, "P2.2: Add at the limit", got, e, most)
	got, e = rational.Mul(fromRat(most), fromRat(over(one, power(maxBits, -1))))
	checkRat(t, "P2.2: Mul at the limit", got, e, fraction(1, 1))
	got, e = rational.Sub(fromRat(most), fromRat(most))
	checkRat(t, "P2.2: Sub at the limit", got, e, fraction(0, 1))
}

func TestDivisionByZero(t *testing.T) {
	zero := fromRat(fraction(0, 1))
	for _, x := range edges() {
		got, e := rational.Div(fromRat(x), zero)
		checkFailure(t, "P2.2: division by zero", got, e, api.ErrZero, x)
	}
	for _, bad := range invalid() {
		got, e := rational.Div(bad, zero)
		checkFailure(t, "P2.2: an invalid number divided by zero", got, e, api.ErrArg)
	}
}

func TestInvalidOperands(t *testing.T) {
	others := append(invalid(), fromRat(fraction(0, 1)), fromRat(fraction(-2, 3)), fromRat(over(power(maxBits, -1), power(maxBits, -2))))
	for _, bad := range invalid() {
		for _, other := range others {
			for _, p := range [][2]api.Rat{{bad, other}, {other, bad}} {
				for _, o := range operations() {
					got, e := o.do(p[0], p[1])
					checkFailure(t, "P2.2: an invalid operand of "+o.name, got, e, api.ErrArg)
				}
				if order, e := rational.Cmp(p[0], p[1]); e != api.ErrArg || order != 0 {
					t.Fatal("P2.3: Cmp of an invalid number:", order, e)
				}
				got, e := rational.Simplest(p[0], p[1])
				checkFailure(t, "P2.6: Simplest of an invalid number", got, e, api.ErrArg)
			}
		}
	}
}

func TestLimitOfProductsInSums(t *testing.T) {
	// Both results are 0, but the products that are added or subtracted are too big.
	x := over(power(maxBits-1, 0), big.NewInt(3))
	got, e := rational.Add(fromRat(x), fromRat(new(big.Rat).Neg(x)))
	checkFailure(t, "P2.2: products within Add", got, e, api.ErrTooBig)
	got, e = rational.Sub(fromRat(x), fromRat(x))
	checkFailure(t, "P2.2: products within Sub", got, e, api.ErrTooBig)
}
