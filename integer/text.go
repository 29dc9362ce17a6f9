package integer

import (
	"strings"

	"straightedge/api"
)

// Decimal digits are converted in groups, the most of them that fit into a limb.
const (
	groupDigits = 9
	groupValue  = 1_000_000_000
)

// Text returns the decimal digits.
func Text(a api.Int) (string, api.Errno) {
	if !Valid(a) {
		return "", api.ErrArg
	}
	if len(a.Mag) == 0 {
		return "0", api.OK
	}
	// A limb has at most ten digits.
	text := make([]byte, 10*len(a.Mag)+1)
	at := len(text)
	rest := clone(a.Mag)
	for len(rest) > 0 {
		group := divLimb(rest, groupValue)
		rest = trim(rest)
		for count := 0; count < groupDigits && (len(rest) > 0 || group > 0); count++ {
			at--
			text[at] = byte('0' + group%10)
			group /= 10
		}
	}
	if a.Neg {
		at--
		text[at] = '-'
	}
	return string(text[at:]), api.OK
}

// Parse reads decimal digits.
func Parse(s string) (api.Int, api.Errno) {
	digits, neg := strings.CutPrefix(s, "-")
	if !decimal(digits) || neg && digits == "0" {
		return api.Int{}, api.ErrForm
	}
	if digits == "0" {
		return api.Int{}, api.OK
	}
	var mag []uint32
	for len(digits) > 0 {
		if len(mag) > api.MaxLimbs {
			return api.Int{}, api.ErrTooBig
		}
		count := (len(digits)-1)%groupDigits + 1
		if carry := scale(mag, groupValue, smallNumber(digits[:count])); carry > 0 {
			mag = append(mag, carry)
		}
		digits = digits[count:]
	}
	return limited(neg, mag)
}

// decimal reports whether s consists of digits without a leading zero, or is a zero alone.
func decimal(s string) bool {
	if s == "" || s[0] == '0' && s != "0" {
		return false
	}
	for i := range len(s) {
		if s[i] < '0' || s[i] > '9' {
			return false
		}
	}
	return true
}

// smallNumber returns the number of at most groupDigits digits.
func smallNumber(digits string) uint32 {
	n := uint32(0)
	for i := range len(digits) {
		n = 10*n + uint32(digits[i]-'0')
	}
	return n
}
