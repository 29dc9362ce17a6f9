package multipoly_test

import (
	"math/big"
	"math/rand"
	"slices"
	"strconv"
	"strings"
	"testing"

	"straightedge/api"
	"straightedge/rational"
)

const maxBits = 32 * api.MaxLimbs

// powers are the exponents of all variables.
type powers [api.MaxVars]int

// model is a polynomial with coefficients of any size, none of which is 0.
type model map[powers]*big.Int

// add adds a number to a coefficient.
func (m model) add(at powers, x *big.Int) {
	sum := new(big.Int).Set(x)
	if before := m[at]; before != nil {
		sum.Add(sum, before)
	}
	if sum.Sign() == 0 {
		delete(m, at)
	} else {
		m[at] = sum
	}
}

// ascending returns the monomials in the chapter's order.
func (m model) ascending() []powers {
	var l []powers
	for at := range m {
		l = append(l, at)
	}
	slices.SortFunc(l, func(a, b powers) int {
		for v := range a {
			if a[v] != b[v] {
				return a[v] - b[v]
			}
		}
		return 0
	})
	return l
}

func toInt(n api.Int) *big.Int {
	x := new(big.Int)
	for _, limb := range slices.Backward(n.Mag) {
		x.Lsh(x, 32)
		x.Add(x, big.NewInt(int64(limb)))
	}
	if n.Neg {
		x.Neg(x)
	}
	return x
}

func fromInt(x *big.Int) api.Int {
	n := api.Int{Neg: x.Sign() < 0}
	for rest := new(big.Int).Abs(x); rest.Sign() > 0; rest.Rsh(rest, 32) {
		n.Mag = append(n.Mag, uint32(new(big.Int).And(rest, big.NewInt(1<<32-1)).Uint64()))
	}
	return n
}

func toPowers(exps []int) powers {
	var at powers
	copy(at[:], exps)
	return at
}

func toModel(p []api.Term) model {
	m := model{}
	for _, term := range p {
		m.add(toPowers(term.Exps), toInt(term.Coef))
	}
	return m
}

func fromModel(m model) []api.Term {
	var p []api.Term
	for _, at := range m.ascending() {
		term := api.Term{Coef: fromInt(m[at])}
		for v, exponent := range at {
			if exponent > 0 {
				term.Exps = slices.Clone(at[:v+1])
			}
		}
		p = append(p, term)
	}
	return p
}

// read returns the polynomial of a text, whose terms and factors may be in any order; numbers may be written as 2^n.
func read(s string) model {
	m := model{}
	for _, word := range strings.Split(strings.ReplaceAll(s, " - ", " + -"), " + ") {
		word, negative := strings.CutPrefix(word, "-")
		x := big.NewInt(1)
		var at powers
		for _, factor := range strings.Split(word, "*") {
			base, power, _ := strings.Cut(factor, "^")
			exponent, err := strconv.Atoi(power)
			if err != nil {
				exponent = 1
			}
			if index, isVariable := strings.CutPrefix(base, "x"); isVariable {
				v, _ := strconv.Atoi(index)
				at[v] += exponent
				continue
			}
			n, ok := new(big.Int).SetString(base, 10)
			if !ok {
				panic("no number: " + base)
			}
			x.Mul(x, n.Exp(n, big.NewInt(int64(exponent)), nil))
		}
		if negative {
			x.Neg(x)
		}
		m.add(at, x)
	}
	return m
}

// poly returns the polynomial of such a text.
func poly(s string) []api.Term { return fromModel(read(s)) }

// show returns the text of a polynomial, as the chapter describes it.
func show(m model) string {
	if len(m) == 0 {
		return "0"
	}
	s := ""
	for _, at := range slices.Backward(m.ascending()) {
		switch negative := m[at].Sign() < 0; {
		case s == "" && negative:
			s = "-"
		case s == "":
		case negative:
			s += " - "
		default:
			s += " + "
		}
		size := new(big.Int).Abs(m[at]).String()
		var factors []string
		if size != "1" || at == (powers{}) {
			factors = append(factors, size)
		}
		for v, exponent := range at {
			if exponent == 1 {
				factors = append(factors, "x"+strconv.Itoa(v))
			} else if exponent > 1 {
				factors = append(factors, "x"+strconv.Itoa(v)+"^"+strconv.Itoa(exponent))
			}
		}
		s += strings.Join(factors, "*")
	}
	return s
}

// short returns the text of a polynomial for a message.
func short(p []api.Term) string {
	s := show(toModel(p))
	if len(s) > 300 {
		return s[:140] + " .. " + s[len(s)-140:]
	}
	return s
}

func equalInt(a, b api.Int) bool { return a.Neg == b.Neg && slices.Equal(a.Mag, b.Mag) }

func equalRat(a, b api.Rat) bool { return equalInt(a.Num, b.Num) && equalInt(a.Den, b.Den) }

func equalTerm(a, b api.Term) bool { return equalInt(a.Coef, b.Coef) && slices.Equal(a.Exps, b.Exps) }

func equal(p, q []api.Term) bool { return slices.EqualFunc(p, q, equalTerm) }

// must returns a function that fails the test at an error.
func must[T any](t *testing.T) func(v T, e api.Errno) T {
	return func(v T, e api.Errno) T {
		t.Helper()
		if e != api.OK {
			t.Fatal("error", e)
		}
		return v
	}
}

// fromRat returns the rational number of a number.
func fromRat(x *big.Rat) api.Rat { return api.Rat{Num: fromInt(x.Num()), Den: fromInt(x.Denom())} }

// numbers returns rational numbers that are separated by blanks.
func numbers(s string) []api.Rat {
	var l []api.Rat
	for _, word := range strings.Fields(s) {
		x, ok := new(big.Rat).SetString(word)
		if !ok {
			panic("no number: " + word)
		}
		l = append(l, fromRat(x))
	}
	return l
}

func numberText(r api.Rat) string {
	s, e := rational.Text(r)
	if e != api.OK {
		return "(no number)"
	}
	return s
}

// shape tells which polynomials are drawn.
type shape struct {
	terms    int
	vars     []int
	exponent int // the greatest one
	bits     int // of the coefficients
}

// drawShape returns a shape; some polynomials have many terms, but then they have short coefficients.
func drawShape(source *rand.Rand) shape {
	vars := [][]int{{0}, {0, 1}, {0, 1, 2}, {1}, {2, 3}, {0, 31}, {31}, {7, 8, 9}, {1, 0}}
	s := shape{vars: vars[source.Intn(len(vars))], terms: source.Intn(6), exponent: 1 + source.Intn(4), bits: 1 + source.Intn(8)}
	switch source.Intn(6) {
	case 0:
		s.terms = 10 + source.Intn(40)
	case 1:
		s.bits = 40 + source.Intn(100)
	case 2:
		s.exponent = 10 + source.Intn(30)
	}
	return s
}

// drawInt returns an integer of at most that many bits.
func drawInt(source *rand.Rand, bits int) *big.Int {
	x := new(big.Int).Rand(source, new(big.Int).Lsh(big.NewInt(1), uint(bits)))
	if source.Intn(2) == 0 {
		x.Neg(x)
	}
	return x
}

// draw returns a polynomial.
func (s shape) draw(source *rand.Rand) []api.Term {
	m := model{}
	for range s.terms {
		var at powers
		for _, v := range s.vars {
			at[v] = source.Intn(s.exponent + 1)
		}
		if x := drawInt(source, s.bits); x.Sign() != 0 {
			m[at] = x
		}
	}
	return fromModel(m)
}

// drawRat returns a rational number whose terms have at most that many bits.
func drawRat(source *rand.Rand, bits int) api.Rat {
	num, den := drawInt(source, bits), drawInt(source, bits)
	if source.Intn(2) == 0 || den.Sign() == 0 {
		den.SetInt64(1)
	}
	return fromRat(new(big.Rat).SetFrac(num, den))
}
