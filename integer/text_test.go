package integer_test

import (
	"math/big"
	"math/rand"
	"strings"
	"testing"

	"straightedge/api"
	"straightedge/integer"
)

// checkText checks that a number is printed and read.
func checkText(t *testing.T, x *big.Int) {
	t.Helper()
	want := x.String()
	if text, e := integer.Text(fromBig(x)); e != api.OK || text != want {
		t.Fatalf("P1.5: Text(%s): %q, error %d", want, text, e)
	}
	got, e := integer.Parse(want)
	checkInt(t, "P1.5: Parse", got, e, x)
}

func TestTextAndParse(t *testing.T) {
	for _, x := range edges() {
		checkText(t, x)
	}
	for n := int64(-2000); n <= 2000; n++ {
		checkText(t, big.NewInt(n))
	}
	ten := big.NewInt(10)
	for p := big.NewInt(1); p.BitLen() <= maxBits; p.Mul(p, ten) {
		checkText(t, p)
		checkText(t, new(big.Int).Sub(p, big.NewInt(1)))
		checkText(t, new(big.Int).Neg(p))
	}
	source := rand.New(rand.NewSource(5))
	for range 1000 {
		checkText(t, draw(source, api.MaxLimbs))
	}
}

func TestParseForm(t *testing.T) {
	limit := strings.Repeat("1", 3000)
	for _, s := range []string{
		"", "-", "--1", "-0", "00", "-00", "007", "-007", "+1", "+0", "+", " 1", "1 ", "1 2", "1a", "a", "0x1", "1_000", "1.0", "1e3", "1-", "1-2",
		"/", ":", "1/", "1:", "1\x00", "\x00", "\n", "1\n", "\u0661", "1\u0662", "\xff", "\u22121", limit + "x", "-" + limit + " ", "0" + limit, "-0" + limit,
	} {
		if a, e := integer.Parse(s); e != api.ErrForm || !isZeroValue(a) {
			t.Errorf("P1.5: Parse(%.20q): error %d", s, e)
		}
	}
}

func TestParseLimit(t *testing.T) {
	for _, plus := range []int64{-2, -1, 0, 1} {
		for _, sign := range []int64{1, -1} {
			x := power(maxBits, plus)
			x.Mul(x, big.NewInt(sign))
			got, e := integer.Parse(x.String())
			checkInt(t, "P1.5: Parse at the limit", got, e, x)
		}
	}
	for _, s := range []string{power(maxBits-1, 0).String() + "0", "9" + strings.Repeat("0", 5000), "-1" + strings.Repeat("0", 1<<20)} {
		if a, e := integer.Parse(s); e != api.ErrTooBig || !isZeroValue(a) {
			t.Errorf("P1.5: Parse of %d bytes: error %d", len(s), e)
		}
	}
}
