package rational

import (
	"strings"

	"straightedge/api"
	"straightedge/integer"
)

// Text returns the form n or n/d.
func Text(a api.Rat) (string, api.Errno) {
	if !allValid(a) {
		return "", api.ErrArg
	}
	num, _ := integer.Text(a.Num)
	if isOne(a.Den) {
		return num, api.OK
	}
	den, _ := integer.Text(a.Den)
	return num + "/" + den, api.OK
}

// Parse reads the form n or n/d.
func Parse(s string) (api.Rat, api.Errno) {
	before, after, slash := strings.Cut(s, "/")
	num, e := integer.Parse(before)
	if e != api.OK {
		return api.Rat{}, e
	}
	if !slash {
		return api.Rat{Num: num, Den: integer.Of(1)}, api.OK
	}
	den, e := integer.Parse(after)
	if e != api.OK {
		return api.Rat{}, e
	}
	r := api.Rat{Num: num, Den: den}
	if !Valid(r) || isOne(den) {
		return api.Rat{}, api.ErrForm
	}
	return r, api.OK
}
