package subst

import (
	"slices"

	"waybill/api"
	"waybill/fold"
	"waybill/glob"
)

// What doesn't stand for itself in patterns: any characters, and any one.
const (
	star     = '*'
	question = '?'
)

// held is a text that patterns are held against, part by part: of the places (in characters) that the parts so far can end at, each part makes those that it can end at itself. Lists of places rise.
type held struct {
	chars []rune
	alike bool // great and small letters are alike; all that is looked at is small then
}

func hold(s string, alike bool) held {
	h := held{alike: alike}
	h.chars = []rune(h.seen(s))
	return h
}

// seen gives a text as it is looked at.
func (h held) seen(s string) string {
	if h.alike {
		return fold.Lower(s)
	}
	return s
}

// pattern gives the places that a pattern without variables can end at, beginning at some.
func (h held) pattern(from []int, pattern string) []int {
	from = slices.Clone(from)
	for _, c := range h.seen(pattern) {
		switch c {
		case star:
			from = h.onward(from)
		case question:
			from = h.behind(from, func(rune) bool { return true })
		default:
			from = h.behind(from, func(have rune) bool { return have == c })
		}
	}
	return from
}

// variable gives the places that a variable can end at, beginning at some.
func (h held) variable(from []int, name string, vars []api.Var) []int {
	c, ok := classOf(name)
	if !ok {
		values, _ := valuesOf(name, vars)
		return h.values(from, values)
	}
	// Spans of letters are of great ones, or of small ones: made small they are spans, too.
	spans := h.seen(c.spans)
	for range c.size {
		from = h.behind(from, func(have rune) bool { return within(have, spans) })
	}
	return from
}

// values gives the places that any of some values can end at, beginning at some.
func (h held) values(from []int, values []string) []int {
	reached := make([]bool, len(h.chars)+1)
	for _, value := range values {
		if glob.Check(value) != nil {
			continue
		}
		for _, at := range h.pattern(from, value) {
			reached[at] = true
		}
	}
	var list []int
	for at, ok := range reached {
		if ok {
			list = append(list, at)
		}
	}
	return list
}

// behind gives the places behind those at which a character stands that will do. It writes over the list, as onward does: a pattern has many characters, and new lists for each would be most of the work.
func (h held) behind(from []int, will func(c rune) bool) []int {
	list := from[:0]
	for _, at := range from {
		if at < len(h.chars) && will(h.chars[at]) {
			list = append(list, at+1)
		}
	}
	return list
}

// onward gives all places from the first one on.
func (h held) onward(from []int) []int {
	if len(from) == 0 {
		return nil
	}
	at, list := from[0], from[:0]
	for ; at <= len(h.chars); at++ {
		list = append(list, at)
	}
	return list
}
