package rational_test

import (
	"math/big"
	"math/rand"
	"strings"
	"testing"

	"straightedge/api"
	"straightedge/rational"
)

// checkText checks that a number is printed and read.
func checkText(t *testing.T, x *big.Rat) {
	t.Helper()
	want := x.RatString()
	if text, e := rational.Text(fromRat(x)); e != api.OK || text != want {
		t.Fatalf("P2.7: Text(%s): %q, error %d", want, text, e)
	}
	got, e := rational.Parse(want)
	checkRat(t, "P2.8: Parse", got, e, x)
}

func TestTextAndParse(t *testing.T) {
	for n := int64(-30); n <= 30; n++ {
		for d := int64(1); d <= 30; d++ {
			checkText(t, fraction(n, d))
		}
	}
	for _, x := range edges() {
		checkText(t, x)
	}
	source := rand.New(rand.NewSource(6))
	for range 300 {
		checkText(t, draw(source, api.MaxLimbs))
	}
	for i, bad := range invalid() {
		if text, e := rational.Text(bad); e != api.ErrArg || text != "" {
			t.Errorf("P2.7: Text of invalid number %d: %q, error %d", i, text, e)
		}
	}
}

func TestParseErrors(t *testing.T) {
	tooBig := power(maxBits, 0).String()
	most := power(maxBits, -1).String()
	for _, x := range []struct {
		s    string
		want api.Errno
	}{
		{"", api.ErrForm}, {"/", api.ErrForm}, {"1/", api.ErrForm}, {"/2", api.ErrForm}, {"//", api.ErrForm}, {"-", api.ErrForm}, {"-/2", api.ErrForm},
		{"1/2/3", api.ErrForm}, {"1//2", api.ErrForm}, {"1/2/", api.ErrForm}, {"/1/2", api.ErrForm},
		{"6/8", api.ErrForm}, {"3/1", api.ErrForm}, {"3/-4", api.ErrForm}, {"3/0", api.ErrForm}, {"0/0", api.ErrForm}, {"0/1", api.ErrForm}, {"0/2", api.ErrForm}, {"3/-1", api.ErrForm}, {"3/3", api.ErrForm}, {"-2/4", api.ErrForm},
		{"01/2", api.ErrForm}, {"1/02", api.ErrForm}, {"-0", api.ErrForm}, {"-0/2", api.ErrForm}, {"1/-0", api.ErrForm}, {"+1/2", api.ErrForm}, {"1/+2", api.ErrForm},
		{" 1/2", api.ErrForm}, {"1 /2", api.ErrForm}, {"1/ 2", api.ErrForm}, {"1/2 ", api.ErrForm}, {"1/2\n", api.ErrForm}, {"1\x00/2", api.ErrForm}, {"1:2", api.ErrForm}, {"1.5", api.ErrForm}, {"1\u20442", api.ErrForm}, {"\u00bd", api.ErrForm}, {"1/\xff", api.ErrForm},
		// The errors of the numerator come before those of the denominator.
		{tooBig, api.ErrTooBig}, {"-" + tooBig, api.ErrTooBig}, {tooBig + "/", api.ErrTooBig}, {tooBig + "/x", api.ErrTooBig}, {tooBig + "/0", api.ErrTooBig}, {tooBig + "/" + tooBig, api.ErrTooBig},
		{"/" + tooBig, api.ErrForm}, {"x/" + tooBig, api.ErrForm}, {tooBig + "x", api.ErrForm}, {tooBig + "x/2", api.ErrForm},
		// Those of the denominator come before its other conditions.
		{"1/" + tooBig, api.ErrTooBig}, {"2/-" + tooBig, api.ErrTooBig}, {"0/" + tooBig, api.ErrTooBig}, {"1/" + tooBig + "/", api.ErrForm},
		{most + "/" + most, api.ErrForm}, {most + "/3", api.ErrForm}, {"1/" + strings.Repeat("9", 1<<16), api.ErrTooBig},
	} {
		got, e := rational.Parse(x.s)
		if e != x.want || !isZeroValue(got) {
			t.Errorf("P2.8: Parse(%.20q): error %d, not %d", x.s, e, x.want)
		}
	}
}

func TestParseNoOtherForm(t *testing.T) {
	// All short strings of these characters: a number is read exactly if it is printed like this.
	alphabet := "012469-/"
	var check func(s string)
	check = func(s string) {
		r, e := rational.Parse(s)
		if e == api.OK {
			if text, e := rational.Text(r); e != api.OK || text != s {
				t.Fatalf("P2.8: Parse(%q) reads %q", s, text)
			}
		} else if e != api.ErrForm || !isZeroValue(r) {
			t.Fatalf("P2.8: Parse(%q): error %d", s, e)
		}
		if x, is := new(big.Rat).SetString(s); (is && x.RatString() == s) != (e == api.OK) {
			t.Fatalf("P2.8: Parse(%q): error %d", s, e)
		}
		if len(s) < 5 {
			for i := range len(alphabet) {
				check(s + alphabet[i:i+1])
			}
		}
	}
	check("")
}
