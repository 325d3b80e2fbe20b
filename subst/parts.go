package subst

import (
	"iter"
	"strings"
)

const (
	begin = dollar + "(" // ahead of a variable's name
	end   = ")"          // behind it
)

// The kinds of parts.
const (
	plain    = iota // what is between variables
	variable        // a variable
	opened          // what begins as a variable does, and never ends
)

// part is one of a pattern's parts: its text as it stands in the pattern, and of a variable its name.
type part struct {
	kind       int
	text, name string
}

// parts goes through a pattern's parts, and tells of each one its place.
func parts(pattern string) iter.Seq2[int, part] {
	return func(yield func(at int, p part) bool) {
		for at := 0; at < len(pattern); {
			p := first(pattern[at:])
			if !yield(at, p) {
				return
			}
			at += len(p.text)
		}
	}
}

// first gives the part that a text begins with.
func first(s string) part {
	behind, ok := strings.CutPrefix(s, begin)
	if !ok {
		text, _, _ := strings.Cut(s, begin)
		return part{kind: plain, text: text}
	}
	name, _, ok := strings.Cut(behind, end)
	if !ok {
		return part{kind: opened, text: s}
	}
	return part{kind: variable, text: s[:len(begin+name+end)], name: name}
}

// class is a variable that there is always: it stands for so many characters, each of which is in one of its spans.
type class struct {
	name  string
	spans string // the first and the last character of each span
	size  int
}

// classes are all variables that there are always.
var classes = [...]class{
	{"alpha", "AZaz", 1}, {"upper", "AZ", 1}, {"lower", "az", 1},
	{"digit", "09", 1}, {"alnum", "09AZaz", 1}, {"xdigit", "09AFaf", 1},
	{"region", "AZ", 2}, {"lang", "az", 2},
}

// classOf gives the class of a name.
func classOf(name string) (c class, ok bool) {
	for _, c := range classes {
		if c.name == name {
			return c, true
		}
	}
	return class{}, false
}

// within tells whether a character is in one of some spans.
func within(c rune, spans string) bool {
	for i := 0; i < len(spans); i += 2 {
		if c >= rune(spans[i]) && c <= rune(spans[i+1]) {
			return true
		}
	}
	return false
}
