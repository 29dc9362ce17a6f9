package multipoly_test

import (
	"math/big"
	"math/rand"
	"regexp"
	"slices"
	"strconv"
	"strings"
	"testing"

	"straightedge/api"
	"straightedge/multipoly"
)

// grammar is the chapter's grammar.
var grammar = func() *regexp.Regexp {
	number := `[1-9][0-9]*`
	factor := `x(0|` + number + `)(\^` + number + `)?`
	term := `(` + number + `|(` + number + `\*)?` + factor + `(\*` + factor + `)*)`
	return regexp.MustCompile(`^(0|-?` + term + `(( \+ | - )` + term + `)*)$`)
}()

// isBeyond reports whether a text of the grammar has something that is beyond a limit.
func isBeyond(s string) bool {
	terms := strings.Split(strings.ReplaceAll(strings.TrimPrefix(s, "-"), " - ", " + "), " + ")
	if len(terms) > api.MaxTerms {
		return true
	}
	exceeds := func(digits string, limit int64) bool {
		x, _ := new(big.Int).SetString(digits, 10)
		return x.Cmp(big.NewInt(limit)) > 0
	}
	for _, factor := range strings.Split(strings.Join(terms, "*"), "*") {
		variable, isVariable := strings.CutPrefix(factor, "x")
		if !isVariable {
			x, _ := new(big.Int).SetString(factor, 10)
			if x.BitLen() > maxBits {
				return true
			}
			continue
		}
		index, power, hasPower := strings.Cut(variable, "^")
		if exceeds(index, api.MaxVars-1) || hasPower && exceeds(power, api.MaxExponent) {
			return true
		}
	}
	return false
}

// checkParse checks Parse, and returns the error: a text of the grammar within the limits is read if it is that of its polynomial.
func checkParse(t *testing.T, s string) api.Errno {
	t.Helper()
	want := api.OK
	var m model
	switch {
	case !grammar.MatchString(s):
		want = api.ErrForm
	case isBeyond(s):
		want = api.ErrTooBig
	default:
		if m = read(s); show(m) != s {
			m, want = nil, api.ErrForm
		}
	}
	p, e := multipoly.Parse(s)
	if e != want || !equal(p, fromModel(m)) {
		if len(s) > 200 {
			s = s[:100] + ".." + s[len(s)-100:]
		}
		t.Errorf("P8.10: Parse(%q): %s, error %d and not %d", s, short(p), e, want)
	}
	return e
}

// checkTexts checks Parse for all sequences of tokens up to a length, and returns how many have which error.
func checkTexts(t *testing.T, tokens []string, length int) map[api.Errno]int {
	counts := map[api.Errno]int{}
	var extend func(s string, left int)
	extend = func(s string, left int) {
		counts[checkParse(t, s)]++
		if left == 0 {
			return
		}
		for _, token := range tokens {
			extend(s+token, left-1)
		}
	}
	extend("", length)
	return counts
}

func TestShortTexts(t *testing.T) {
	for _, x := range []struct {
		tokens []string
		length int
	}{
		{[]string{"x", "0", "1", "7", "*", "^", " + ", "-"}, 6},
		{[]string{"x0", "x1", "x10", "x32", "^1", "^2", "^65", "*", " + ", " - ", "2", "1"}, 5},
		{[]string{"x0", "x3^2", "x4", "*", " + ", " - ", "-", "5*"}, 6},
		{[]string{"x", "0", "2", "*", "^", " ", "+", "-", "X", ".", "/", "\x00", "\u00e9", "\u0661", "\n", "e"}, 4},
	} {
		counts := checkTexts(t, x.tokens, x.length)
		if counts[api.OK] < 5 || counts[api.ErrForm] < 1000 {
			t.Error("too few texts:", x.tokens, counts)
		}
	}
}

// TestDrawnTexts changes the texts of polynomials a little.
func TestDrawnTexts(t *testing.T) {
	source := rand.New(rand.NewSource(84))
	pieces := []string{"", "0", "1", "2", "31", "32", "64", "65", "x", "x0", "x1", "*", "^", "-", " + ", " - ", " ", "+", "^2", "*x31", "1*"}
	counts := map[api.Errno]int{}
	for range 30000 {
		s := drawShape(source)
		s.terms = 1 + source.Intn(3)
		text := show(toModel(s.draw(source)))
		for range source.Intn(3) {
			from := source.Intn(len(text) + 1)
			to := min(len(text), from+source.Intn(2))
			text = text[:from] + pieces[source.Intn(len(pieces))] + text[to:]
		}
		counts[checkParse(t, text)]++
	}
	if counts[api.OK] < 3000 || counts[api.ErrForm] < 3000 || counts[api.ErrTooBig] < 100 {
		t.Error("too few texts:", counts)
	}
}

// TestOrderOfParse has texts with several errors.
func TestOrderOfParse(t *testing.T) {
	long := new(big.Int).Lsh(big.NewInt(1), maxBits)
	longest := new(big.Int).Sub(long, big.NewInt(1)).String()
	digits := strings.Repeat("9", 5000)
	for _, x := range []struct {
		s    string
		want api.Errno
	}{
		{"1*x0 + x32", api.ErrTooBig}, {"x32 + 1*x0", api.ErrTooBig}, {"x0 + x0 + x0^65", api.ErrTooBig}, {"x0^65 + x0 + x0", api.ErrTooBig},
		{"x0^1*x1^65", api.ErrTooBig}, {"x1*x0*x32", api.ErrTooBig}, {"x32*x0", api.ErrTooBig}, {"x0 + x1^65 + x0", api.ErrTooBig},
		{"x32 + ", api.ErrForm}, {"x32 + x", api.ErrForm}, {"x0^65*", api.ErrForm}, {"x0^65 +x1", api.ErrForm}, {"x32^0", api.ErrForm}, {"x032", api.ErrForm}, {"x32x0", api.ErrForm},
		{longest, api.OK}, {"-" + longest, api.OK}, {longest + "*x0 - " + longest, api.OK}, {long.String(), api.ErrTooBig}, {"-" + long.String(), api.ErrTooBig}, {long.String() + "*x0", api.ErrTooBig},
		{long.String() + "*x0 + 00", api.ErrForm}, {long.String() + "*x0 + 0", api.ErrForm}, {"0" + long.String(), api.ErrForm}, {"1*x0 + " + long.String(), api.ErrTooBig},
		{digits, api.ErrTooBig}, {"x" + digits, api.ErrTooBig}, {"x0^" + digits, api.ErrTooBig}, {"x0" + digits, api.ErrForm}, {"x0^0" + digits, api.ErrForm}, {digits + "x0", api.ErrForm}, {"x18446744073709551616", api.ErrTooBig}, {"x0^18446744073709551617", api.ErrTooBig},
		{"x31^64", api.OK}, {"x32^64", api.ErrTooBig}, {"x31^65", api.ErrTooBig}, {"x256", api.ErrTooBig}, {"x0^256", api.ErrTooBig}, {"x0^257", api.ErrTooBig}, {"x4294967296", api.ErrTooBig},
		{"0", api.OK}, {"", api.ErrForm}, {"-0", api.ErrForm}, {"00", api.ErrForm}, {"0 + x0", api.ErrForm}, {"x0 + 0", api.ErrForm}, {"x0 - 0", api.ErrForm}, {"0*x0", api.ErrForm}, {"x0^0", api.ErrForm}, {"x0^01", api.ErrForm}, {"01*x0", api.ErrForm}, {"--x0", api.ErrForm}, {"x0 + -x1", api.ErrForm}, {"x0 - -1", api.ErrForm},
		{"1", api.OK}, {"-1", api.OK}, {"x0 + 1", api.OK}, {"1 + x0", api.ErrForm}, {"1 + 1", api.ErrForm}, {"x0 - x0", api.ErrForm}, {"2*x0*3", api.ErrForm}, {"2*3*x0", api.ErrForm}, {"2*3", api.ErrForm}, {"x0*x1*x1", api.ErrForm}, {"x0*x2*x1", api.ErrForm}, {"x0*x1 + x0", api.OK}, {"x0 + x0*x1", api.ErrForm}, {"x0^2 + x0*x1^5", api.OK}, {"x0*x1^5 + x0^2", api.ErrForm},
	} {
		if e := checkParse(t, x.s); e != x.want {
			t.Errorf("P8.10: Parse(%.60q): error %d and not %d", x.s, e, x.want)
		}
	}
}

func TestTextsOfManyTerms(t *testing.T) {
	var words []string
	for i := range api.MaxTerms + 1 {
		words = append(words, "x0^"+strconv.Itoa(i/60+2)+"*x5^"+strconv.Itoa(i%60+2))
	}
	slices.Reverse(words)
	most := strings.Join(words[1:], " + ")
	more := strings.Join(words, " - ")
	ones := strings.Repeat("1 + ", api.MaxTerms)
	for _, x := range []struct {
		s    string
		want api.Errno
	}{
		{most, api.OK}, {"-" + most, api.OK}, {more, api.ErrTooBig}, {more + " + 1", api.ErrTooBig}, {most + " + 1", api.ErrTooBig}, {most + " + x0", api.ErrTooBig}, {most + " + x9^80 + ", api.ErrForm},
		{more + " +", api.ErrForm}, {more + "^2", api.ErrForm}, {most + "*x0", api.ErrForm}, {most + "*x32", api.ErrTooBig},
		{ones + "1", api.ErrTooBig}, {ones, api.ErrForm}, {ones[4:] + "1", api.ErrForm}, {strings.Repeat("x0*", 100000) + "x0", api.ErrForm}, {strings.Repeat("x0*", 100000) + "x99", api.ErrTooBig}, {strings.Repeat("x0*", 100000), api.ErrForm},
		{strings.Repeat("x0 - ", 100000) + "x0", api.ErrTooBig},
	} {
		if e := checkParse(t, x.s); e != x.want {
			t.Errorf("P8.10: Parse of %d bytes, %.60q: error %d and not %d", len(x.s), x.s, e, x.want)
		}
	}
}

func TestText(t *testing.T) {
	for _, s := range []string{
		"0", "1", "-1", "7", "-7", "x0", "-x0", "2*x0", "-2*x0", "x31", "x0^2", "-x0^64", "x0 + 1", "-x0 - 1", "x0 - x1", "x0*x1", "-x0*x31^2", "12*x10*x11^12 - 13*x12",
		"x0^2*x1 - 3*x1 + 5", "x0 + x1 + x2 + 1", "-x0 + x1 - x2 + 11", "x0^2*x1^2 + x0^2*x1 + x0^2 + x0*x1^64 + x0 + x1 - 1", "4294967296*x0 - 4294967295", "10*x0 + 1", "x1^10*x10 - x1",
	} {
		if got, e := multipoly.Text(poly(s)); got != s || e != api.OK {
			t.Errorf("P8.9: Text: %q, error %d, not %q", got, e, s)
		}
		if e := checkParse(t, s); e != api.OK {
			t.Errorf("P8.10: Parse(%q): error %d", s, e)
		}
	}
}
