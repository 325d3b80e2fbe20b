// Package fold is layer 2: see shared/doc/02-fold.md.
package fold

import (
	"strconv"
	"strings"

	"waybill/api"
)

const (
	blanks = " \t\n\r"

	caseGap = 'a' - 'A' // how far a small letter stands behind its great one

	mostHexDigits = 16 // as many as the greatest number has
)

// Lower gives a text with small letters.
func Lower(s string) string {
	b := []byte(s)
	for i, c := range b {
		if c >= 'A' && c <= 'Z' {
			b[i] = c + caseGap
		}
	}
	return string(b)
}

// Same tells whether two texts are one, but for great and small letters.
func Same(a, b string) bool { return Lower(a) == Lower(b) }

// Decimal gives the number of decimal digits.
func Decimal(s string, most uint64) (uint64, error) { return number(s, 10, most) }

// Hex gives the number of digits of base 16.
func Hex(s string, most uint64) (uint64, error) { return number(s, 16, most) }

// number reads on behind a number that is above most: a wrong digit there is told ahead of that.
func number(s string, base, most uint64) (uint64, error) {
	if s == "" {
		return 0, api.Fail(api.ErrShort, 0)
	}
	n, above := uint64(0), false
	for at := 0; at < len(s); at++ {
		d, ok := digit(s[at])
		if !ok || d >= base {
			return 0, api.Fail(api.ErrForm, at)
		}
		// Held against most by division: the product may be beyond what n holds.
		above = above || d > most || n > (most-d)/base
		if !above {
			n = n*base + d
		}
	}
	if above {
		return 0, api.Fail(api.ErrRange, 0)
	}
	return n, nil
}

// digit gives what a byte counts as a digit of base 16.
func digit(c byte) (n uint64, ok bool) {
	switch {
	case c >= 'a' && c <= 'f':
		c -= caseGap
		fallthrough
	case c >= 'A' && c <= 'F':
		return uint64(c-'A') + 10, true
	case c >= '0' && c <= '9':
		return uint64(c - '0'), true
	default:
		return 0, false
	}
}

// Digits gives a number's decimal digits.
func Digits(n uint64) string { return strconv.FormatUint(n, 10) }

// HexDigits gives a number's digits of base 16.
func HexDigits(n uint64, width int) string {
	digits := strings.ToUpper(strconv.FormatUint(n, 16))
	width = max(min(width, mostHexDigits), len(digits))
	return strings.Repeat("0", width-len(digits)) + digits
}

// Trim gives a text without blanks around it.
func Trim(s string) string { return strings.Clone(strings.Trim(s, blanks)) }

// Fields gives the parts of a text between marks.
func Fields(s string, mark byte, most int) ([]string, error) {
	if most < 1 {
		return nil, api.Fail(api.ErrArg, 0)
	}
	var list []string
	from := 0
	for at := 0; at < len(s); at++ {
		if s[at] != mark {
			continue
		}
		// A mark ends one part and begins another: both must have room.
		if len(list)+1 >= most {
			return nil, api.Fail(api.ErrMany, at)
		}
		list = append(list, strings.Clone(s[from:at]))
		from = at + 1
	}
	return append(list, strings.Clone(s[from:])), nil
}

// All tells whether all bytes of a text are among others.
func All(s, among string) bool {
	var there [256]bool
	for i := 0; i < len(among); i++ {
		there[among[i]] = true
	}
	for i := 0; i < len(s); i++ {
		if !there[s[i]] {
			return false
		}
	}
	return true
}
