package url

import "strings"

// part is a part of a text: where it begins, and whether it stands there, empty or not.
type part struct {
	text  string
	at    int
	there bool
}

// parts are those of a text behind its scheme.
type parts struct{ site, path, query, frag part }

// split gives the parts of a text from a place on.
func split(s string, at int) parts {
	var p parts
	p.site, at = cut(s, at, siteMark, slash+queryMark+fragMark)
	p.path, at = cut(s, at, "", queryMark+fragMark)
	p.query, at = cut(s, at, queryMark, fragMark)
	p.frag, _ = cut(s, at, fragMark, "")
	return p
}

// cut gives the part that a mark at a place begins, up to the first one of some bytes, and the place behind it.
func cut(s string, at int, mark, ends string) (p part, next int) {
	text, there := strings.CutPrefix(s[at:], mark)
	if !there {
		return part{}, at
	}
	if size := strings.IndexAny(text, ends); size >= 0 {
		text = text[:size]
	}
	at += len(mark)
	return part{text, at, true}, at + len(text)
}
