package report_test

import (
	"math"
	"slices"
	"strconv"
	"strings"
	"testing"

	"waybill/api"
	"waybill/canon"
	"waybill/jsonp"
	"waybill/report"
)

// writes asks for the line of an event.
func writes(t *testing.T, e api.Event, want string) {
	t.Helper()
	got, err := report.Write(e)
	same(t, e, []any{got, err}, []any{want, nil})
}

// unwritten asks for the error of an event that no line tells.
func unwritten(t *testing.T, e api.Event, kind api.Errno) {
	t.Helper()
	got, err := report.Write(e)
	same(t, e, tells(err), told{kind: kind})
	same(t, e, got, "")
}

// parsed gives a text that must be a JSON text in its canonical form.
func parsed(t *testing.T, text string) *jsonp.Doc {
	t.Helper()
	doc, err := jsonp.Parse([]byte(text), api.Bounds{Bytes: math.MaxInt, Deep: 9, Nodes: math.MaxInt})
	if err != nil {
		t.Fatalf("%q: %v", text, err)
	}
	form, err := canon.Write(doc, 0)
	same(t, "canonical form", []any{form, err}, []any{text, nil})
	return doc
}

// P30.3: lines in canonical form, of what isn't empty, 0 or false.
func TestWrite(t *testing.T) {
	for line, e := range canonical() {
		writes(t, e, line)
		parsed(t, line)
	}
	for line, e := range map[string]api.Event{
		`{"install":{"apple":{"app":"."},"id":""}}`:                                                        installed(api.Manifest{Apple: true}),
		`{"install":{"apple":{"app":"x.","domains":["","*.a:1","*"],"schemes":[""]},"id":""}}`:             installed(api.Manifest{Apple: true, App: api.AppID{Team: "x"}, Domains: []api.HostPattern{name(""), wild("a:1"), wild("")}, Schemes: []string{""}}),
		`{"install":{"android":{"package":"","prints":["` + strings.Repeat("00:", 31) + `00"]},"id":"é"}}`: installed(api.Manifest{ID: "é", Prints: make([]api.Print, 1)}),
		`{"install":{"android":{"filters":[{"hosts":[":0","A:-2","*.b:99999"]}],"package":"p"},"id":"a"}}`: filtered(api.Filter{Hosts: []api.FilterHost{{}, at(name("A"), -2), at(wild("b"), 99999)}}),
	} {
		writes(t, e, line)
		parsed(t, line)
	}
	// Lists without elements are nil ones.
	writes(t, installed(api.Manifest{Prints: []api.Print{}, Filters: []api.Filter{}}), `{"install":{"android":{"package":""},"id":""}}`)
	writes(t, delivered(api.Response{Body: []byte{}}), `{"deliver":{"id":0}}`)
}

// among gives an event with those fields of one that are of its kind, and wrong ones beside them.
func among(e api.Event) api.Event {
	const x = "\xff"
	bad := api.Event{Kind: e.Kind, ID: x, Host: x, On: true, N: 1, URL: x}
	bad.Response = api.Response{ID: 1, Status: -1, Redirect: true, Timeout: true, Type: x, Cache: x, Body: []byte(x)}
	bad.Manifest = api.Manifest{ID: x, Package: x, Prints: make([]api.Print, 1), Filters: []api.Filter{{Paths: []api.FilterPath{{Text: x}}}}}
	switch e.Kind {
	case api.EvInstall:
		bad.Manifest = e.Manifest
		if e.Manifest.Apple {
			bad.Manifest.Package, bad.Manifest.Prints, bad.Manifest.Filters = x, make([]api.Print, 1), []api.Filter{{Paths: []api.FilterPath{{Text: x}}}}
		} else {
			bad.Manifest.App, bad.Manifest.Domains, bad.Manifest.Schemes = api.AppID{Team: x}, []api.HostPattern{name(x)}, []string{x}
		}
	case api.EvUninstall:
		bad.ID = e.ID
	case api.EvToggle:
		bad.ID, bad.Host, bad.On = e.ID, e.Host, e.On
	case api.EvTick:
		bad.N = e.N
	case api.EvDeliver:
		bad.Response = e.Response
	case api.EvOpen:
		bad.URL = e.URL
	}
	return bad
}

// P30.3: what isn't of an event's kind isn't looked at.
func TestWriteKindAlone(t *testing.T) {
	for line, e := range canonical() {
		writes(t, among(e), line)
	}
}

// P30.3: an event without a kind, ahead of all else.
func TestWriteNoKind(t *testing.T) {
	for _, kind := range []int{0, -1, 7, 8, math.MinInt, math.MaxInt} {
		unwritten(t, api.Event{Kind: kind}, api.ErrKind)
		unwritten(t, among(api.Event{Kind: kind}), api.ErrKind)
		unwritten(t, api.Event{Kind: kind, URL: "https://x.com/"}, api.ErrKind)
	}
}

// withText gives events of all kinds, each with a text at another place, and what the line tells there.
func withText(s string) map[string]api.Event {
	path := func(kind int) api.Event {
		return filtered(api.Filter{Paths: []api.FilterPath{{Kind: api.PathExact}, {Kind: kind, Text: s}}})
	}
	ofApple := func(m api.Manifest) api.Event {
		m.Apple = true
		return installed(m)
	}
	return map[string]api.Event{
		"ID of Apple's": ofApple(api.Manifest{ID: s}), "ID of Android's": installed(api.Manifest{ID: s}),
		"Team": ofApple(api.Manifest{App: api.AppID{Team: s}}), "Bundle": ofApple(api.Manifest{App: api.AppID{Bundle: s}}),
		"Domains": ofApple(api.Manifest{Domains: []api.HostPattern{{}, name(s)}}), "wild ones": ofApple(api.Manifest{Domains: []api.HostPattern{{}, wild(s)}}),
		"Schemes": ofApple(api.Manifest{Schemes: []string{"", s}}), "Package": installed(api.Manifest{Package: s}),
		"Actions": filtered(api.Filter{}, api.Filter{Actions: []string{"", s}}), "Categories": filtered(api.Filter{Categories: []string{"", s}}),
		"filters' Schemes": filtered(api.Filter{Schemes: []string{"", s}}), "Hosts": filtered(api.Filter{Hosts: []api.FilterHost{{}, at(name(s), -1)}}),
		"wild Hosts": filtered(api.Filter{Hosts: []api.FilterHost{{}, at(wild(s), 7)}}),
		"exact":      path(api.PathExact), "prefix": path(api.PathPrefix), "pattern": path(api.PathPattern),
		"uninstall": {Kind: api.EvUninstall, ID: s}, "toggle": {Kind: api.EvToggle, ID: s}, "Host": {Kind: api.EvToggle, Host: s},
		"Type": delivered(api.Response{Type: s}), "Cache": delivered(api.Response{Cache: s}), "Body": delivered(api.Response{Body: []byte(s)}),
		"open": {Kind: api.EvOpen, URL: s},
	}
}

// P30.3: each text that is to be written must be characters' bytes.
func TestWriteTexts(t *testing.T) {
	for _, s := range wrongTexts {
		for _, e := range withText(s) {
			unwritten(t, e, api.ErrUTF)
		}
	}
	around := map[string][2]string{"Team": {"", "."}, "Bundle": {".", ""}, "wild ones": {"*.", ""}, "wild Hosts": {"*.", ":7"}}
	for _, s := range rightTexts {
		for what, e := range withText(s) {
			line, err := report.Write(e)
			same(t, []any{what, s}, err, error(nil))
			doc := parsed(t, line)
			var texts []string
			for id := range doc.Len() {
				if text, err := doc.Text(id); err == nil {
					texts = append(texts, text)
				}
			}
			want := around[what][0] + s + around[what][1]
			same(t, []any{what, line, want}, slices.Contains(texts, want), true)
		}
	}
}

// P30.3: numbers that no line tells, behind wrong texts, wherever these are.
func TestWriteRange(t *testing.T) {
	for _, kind := range []int{0, -1, 4, math.MinInt, math.MaxInt} {
		paths := []api.FilterPath{{Kind: api.PathExact, Text: "x"}, {Kind: kind, Text: "x"}}
		unwritten(t, filtered(api.Filter{Paths: paths}), api.ErrRange)
		unwritten(t, filtered(wholeFilter(), api.Filter{Paths: paths[1:]}, wholeFilter()), api.ErrRange)
		unwritten(t, filtered(api.Filter{Paths: paths, Schemes: []string{"\xff"}}), api.ErrUTF)
		unwritten(t, filtered(api.Filter{Paths: paths}, api.Filter{Actions: []string{"\xff"}}), api.ErrUTF)
		unwritten(t, filtered(api.Filter{Paths: []api.FilterPath{{Kind: kind, Text: "\xff"}}}), api.ErrUTF)
		unwritten(t, filtered(api.Filter{Paths: []api.FilterPath{{Kind: kind}, {Kind: api.PathPrefix, Text: "\xff"}}}), api.ErrUTF)
	}
	for _, status := range []int{-1, 1000, math.MinInt, math.MaxInt} {
		unwritten(t, delivered(api.Response{Status: status}), api.ErrRange)
		unwritten(t, delivered(api.Response{Status: status, Body: []byte("\xff")}), api.ErrUTF)
		unwritten(t, delivered(api.Response{Status: status, Type: "\xff"}), api.ErrUTF)
	}
	for _, status := range []int{1, 99, 200, 998, 999} {
		writes(t, delivered(api.Response{Status: status}), deliver(`"id":0,"status":`+strconv.Itoa(status)))
	}
}

// chance gives numbers that look as if they came by chance, the same ones for a seed.
type chance uint32

func (c *chance) below(n int) int {
	*c = *c*1664525 + 1013904223
	return int(*c>>16) % n
}

func (c *chance) is() bool { return c.below(2) == 0 }

// one gives one of some things.
func one[T any](c *chance, among ...T) T { return among[c.below(len(among))] }

// some gives a few things, or none.
func some[T any](c *chance, make func() T) []T {
	var list []T
	for range c.below(4) {
		list = append(list, make())
	}
	return list
}

func (c *chance) text() string { return one(c, append(rightTexts, "", "a", "https", "/x")...) }

func (c *chance) pattern() api.HostPattern {
	return one(c, name("a"), name("x.com"), wild("x.com"), wild(""), name("1.2.3.4"), name("[::1]"), name("xn--bcher-kva.de"))
}

func (c *chance) print() api.Print { return one(c, printA, printB, api.Print{9, 99, 0xff}) }

func (c *chance) filter() api.Filter {
	return api.Filter{
		Actions: some(c, c.text), Categories: some(c, c.text), Schemes: some(c, c.text),
		Hosts: some(c, func() api.FilterHost { return at(c.pattern(), one(c, -1, 0, 80, 65535)) }),
		Paths: some(c, func() api.FilterPath {
			return api.FilterPath{Kind: one(c, api.PathExact, api.PathPrefix, api.PathPattern), Text: c.text()}
		}),
		AutoVerify: c.is(),
	}
}

func (c *chance) manifest() api.Manifest {
	if c.is() {
		return api.Manifest{ID: c.text(), Package: c.text(), Prints: some(c, c.print), Filters: some(c, c.filter)}
	}
	m := api.Manifest{ID: c.text(), Apple: true, Domains: some(c, c.pattern), Schemes: some(c, c.text)}
	m.App = api.AppID{Team: one(c, team, digits), Bundle: one(c, "a", "com.A-9", "..", strings.Repeat("b", 155))}
	return m
}

// event gives one of those events that lines can tell.
func (c *chance) event() api.Event {
	number := one(c, uint64(0), 1, 10, math.MaxUint64)
	switch kind := 1 + c.below(6); kind {
	case api.EvInstall:
		return installed(c.manifest())
	case api.EvUninstall:
		return api.Event{Kind: kind, ID: c.text()}
	case api.EvToggle:
		return api.Event{Kind: kind, ID: c.text(), Host: c.text(), On: c.is()}
	case api.EvTick:
		return api.Event{Kind: kind, N: number}
	case api.EvDeliver:
		r := api.Response{ID: number, Status: one(c, 0, 1, 200, 999), Redirect: c.is(), Timeout: c.is(), Type: c.text(), Cache: c.text()}
		r.Body = append(r.Body, c.text()...)
		return delivered(r)
	default:
		return api.Event{Kind: kind, URL: c.text()}
	}
}

// P30.3: Read of what Write gives is the event.
func TestReadOfWrite(t *testing.T) {
	c := chance(1)
	for range 5000 {
		e := c.event()
		line, err := report.Write(e)
		same(t, e, err, error(nil))
		parsed(t, line)
		reads(t, line, e)
	}
	for _, e := range otherForms() {
		line, err := report.Write(e)
		same(t, e, err, error(nil))
		reads(t, line, e)
	}
	long := delivered(api.Response{Body: []byte(strings.Repeat("€\n\"\x01", 100000))})
	line, err := report.Write(long)
	same(t, "a long one", []any{err, len(line)}, []any{nil, len(`{"deliver":{"body":"","id":0}}`) + 100000*13})
}
