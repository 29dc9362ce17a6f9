package multipoly

import (
	"slices"
	"strconv"
	"strings"

	"straightedge/api"
	"straightedge/integer"
)

// text returns the terms with their signs, from the last one on.
func text(p []api.Term) string {
	if len(p) == 0 {
		return "0"
	}
	var out strings.Builder
	for i, term := range slices.Backward(p) {
		out.WriteString(separator(i == len(p)-1, term.Coef.Neg))
		out.WriteString(strings.Join(factors(term), "*"))
	}
	return out.String()
}

// separator returns what stands before a term.
func separator(first, negative bool) string {
	switch {
	case first && negative:
		return "-"
	case first:
		return ""
	case negative:
		return " - "
	}
	return " + "
}

// factors returns the texts of the factors of a term without its sign.
func factors(term api.Term) []string {
	var l []string
	size, _ := integer.Text(api.Int{Mag: term.Coef.Mag})
	if size != "1" || len(term.Exps) == 0 {
		l = append(l, size)
	}
	for v, exponent := range term.Exps {
		power := "x" + strconv.Itoa(v)
		switch {
		case exponent == 1:
			l = append(l, power)
		case exponent > 1:
			l = append(l, power+"^"+strconv.Itoa(exponent))
		}
	}
	return l
}
