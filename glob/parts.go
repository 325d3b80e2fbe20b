package glob

import (
	"slices"

	"waybill/api"
)

// part is what patterns of both kinds have one behind the other: it stands for a character, or for any one, or, if many is, for any number of such.
type part struct {
	char rune
	free bool // any character will do
	many bool
}

// read gives the parts of one of Apple's patterns.
func read(pattern string) []part {
	var list []part
	for _, c := range pattern {
		list = append(list, part{char: c, free: c == star || c == question, many: c == star})
	}
	return list
}

// readSimple gives the parts of a pattern with points and stars.
func readSimple(pattern string) ([]part, error) {
	var list []part
	escaped := false
	for at, c := range pattern {
		switch {
		case c == star && !escaped:
			last := len(list) - 1
			if last < 0 || list[last].many {
				return nil, api.Fail(api.ErrForm, at)
			}
			list[last].many = true
		case c == backslash && !escaped:
			escaped = true
		default:
			list = append(list, part{char: c, free: c == point && !escaped})
			escaped = false
		}
	}
	if escaped {
		return nil, api.Fail(api.ErrShort, len(pattern))
	}
	return list, nil
}

func (p part) takes(c rune) bool { return p.free || p.char == c }

// covers tells whether parts, as a whole, stand for a text.
func covers(list []part, s string) bool {
	// A truth for each number of parts: can so many stand for all that is gone through of the text?
	here, next := make([]bool, len(list)+1), make([]bool, len(list)+1)
	here[0] = true
	for i, p := range list {
		here[i+1] = p.many && here[i]
	}
	for _, c := range s {
		for i, p := range list {
			if p.many {
				next[i+1] = next[i] || here[i+1] && p.takes(c)
			} else {
				next[i+1] = here[i] && p.takes(c)
			}
		}
		if !slices.Contains(next, true) {
			return false
		}
		here, next = next, here
		// No parts at all stand for the empty text alone.
		next[0] = false
	}
	return here[len(list)]
}
