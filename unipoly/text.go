package unipoly

import (
	"strconv"
	"strings"

	"straightedge/api"
	"straightedge/rational"
)

// Text returns a readable form in x.
func Text(p []api.Rat) (string, api.Errno) {
	return attempt(func() string { return text(p) }, p)
}

// text returns the terms with their signs.
func text(p []api.Rat) string {
	if len(p) == 0 {
		return "0"
	}
	var out strings.Builder
	for i := len(p) - 1; i >= 0; i-- {
		if isZero(p[i]) {
			continue
		}
		number, _ := rational.Text(p[i])
		size, negative := strings.CutPrefix(number, "-")
		out.WriteString(separator(i == len(p)-1, negative))
		out.WriteString(term(size, i))
	}
	return out.String()
}

// separator returns what stands before a term.
func separator(first, negative bool) string {
	switch {
	case first && negative:
		return "-"
	case first:
		return ""
	case negative:
		return " - "
	}
	return " + "
}

// term returns a term without its sign.
func term(size string, exponent int) string {
	if exponent == 0 {
		return size
	}
	power := "x"
	if exponent > 1 {
		power += "^" + strconv.Itoa(exponent)
	}
	if size == "1" {
		return power
	}
	return size + "*" + power
}
