package unipoly_test

import (
	"math/big"
	"math/rand"
	"strconv"
	"strings"
	"testing"

	"straightedge/api"
	"straightedge/unipoly"
)

func TestText(t *testing.T) {
	for _, x := range []struct {
		p    list
		want string
	}{
		{nil, "0"},
		{ints(1), "1"},
		{ints(-1), "-1"},
		{coefs("3/4"), "3/4"},
		{coefs("-3/4"), "-3/4"},
		{ints(0, 1), "x"},
		{ints(0, -1), "-x"},
		{ints(0, 2), "2*x"},
		{coefs("0", "-1/3"), "-1/3*x"},
		{ints(0, 0, 1), "x^2"},
		{ints(0, 0, -1), "-x^2"},
		{ints(1, 1, 1), "x^2 + x + 1"},
		{ints(-1, -1, -1), "-x^2 - x - 1"},
		{coefs("1", "-1", "3/4"), "3/4*x^2 - x + 1"},
		{coefs("-1/2", "-2", "0", "1"), "x^3 - 2*x - 1/2"},
		{coefs("0", "1/5", "0", "-11", "0", "10"), "10*x^5 - 11*x^3 + 1/5*x"},
		{power(api.MaxDegree), "x^64"},
		{list{big.NewRat(1, 1), nought, least}, "-" + most.RatString() + "*x^2 + 1"},
	} {
		s, e := unipoly.Text(fromList(x.p))
		if s != x.want || e != api.OK {
			t.Errorf("P3.11: Text: %q, not %q, error %d", s, x.want, e)
		}
	}
}

// read returns the polynomial with this text.
func read(t *testing.T, s string) list {
	t.Helper()
	if s == "0" {
		return nil
	}
	var l list
	last := api.MaxDegree + 1
	for _, term := range strings.Split(strings.ReplaceAll(s, " - ", " + -"), " + ") {
		number, power, variable := strings.Cut(term, "x")
		exponent := 0
		if variable {
			exponent = 1
			if digits, ok := strings.CutPrefix(power, "^"); ok {
				exponent, _ = strconv.Atoi(digits)
			}
			number = strings.TrimSuffix(number, "*")
			if number == "" || number == "-" {
				number += "1"
			}
		}
		x, ok := new(big.Rat).SetString(number)
		if !ok || x.Sign() == 0 || exponent >= last {
			t.Fatalf("P3.11: no term: %q in %q", term, s)
		}
		for len(l) <= exponent {
			l = append(l, new(big.Rat))
		}
		l[exponent], last = x, exponent
	}
	return l
}

func TestTextOfDrawn(t *testing.T) {
	source := rand.New(rand.NewSource(12))
	for _, bits := range []int{1, 2, 30, maxBits} {
		for range 200 {
			p := draw(source, 7, bits)
			s, e := unipoly.Text(fromList(p))
			if e != api.OK || !equal(read(t, s), p) {
				t.Fatalf("P3.11: Text of %v: %q, error %d", p, s, e)
			}
		}
	}
}
