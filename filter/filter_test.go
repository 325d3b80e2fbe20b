package filter_test

import (
	"errors"
	"reflect"
	"slices"
	"strings"
	"testing"
	"unsafe"

	"waybill/api"
	"waybill/filter"
	"waybill/glob"
	"waybill/host"
	"waybill/ident"
	"waybill/percent"
	"waybill/url"
	"waybill/utf"
)

// wrongTexts are no characters' bytes.
var wrongTexts = []string{"\xff", "\x80", "a\xc0\x80", "\xe2\x82", "\xed\xa0\x80", "\xf4\x90\x80\x80"}

func same(t *testing.T, what any, got, want any) {
	t.Helper()
	if !reflect.DeepEqual(got, want) {
		t.Errorf("%+v: got %+v, want %+v", what, got, want)
	}
}

// sameHosts holds no list and one without elements for one.
func sameHosts(t *testing.T, what any, got []api.Host, want ...string) {
	t.Helper()
	var names []string
	for _, h := range got {
		same(t, what, h.Kind, api.HostName)
		names = append(names, h.Text)
	}
	if !slices.Equal(names, want) {
		t.Errorf("%+v: got %q, want %q", what, names, want)
	}
}

// told is an error as the chapters tell it: kind 0 is none.
type told struct {
	kind  api.Errno
	at    int
	inner error
}

// tells gives the error that an error is; of one that isn't a fault a kind below 0.
func tells(err error) told {
	if err == nil {
		return told{}
	}
	f, ok := err.(*api.Fault)
	if !ok || f == nil || !errors.Is(err, f.Kind) {
		return told{kind: -1}
	}
	return told{f.Kind, f.At, f.Inner}
}

func checks(t *testing.T, f api.Filter, want told) {
	t.Helper()
	same(t, f, tells(filter.Check(f)), want)
}

func read(t *testing.T, s string) api.URL {
	t.Helper()
	u, err := url.Parse(s)
	if err != nil {
		t.Fatalf("%q: %v", s, err)
	}
	return u
}

func hostOf(t *testing.T, s string) api.Host {
	t.Helper()
	h, err := host.Canon(s)
	if err != nil {
		t.Fatalf("%q: %v", s, err)
	}
	return h
}

// opens gives a filter that opens URLs.
func opens(schemes ...string) api.Filter {
	return api.Filter{Actions: []string{api.ActionView}, Categories: []string{api.CategoryDefault, api.CategoryBrowsable}, Schemes: schemes}
}

// at gives a filter with hosts of any port, as the texts of their patterns.
func at(f api.Filter, patterns ...string) api.Filter {
	f.Hosts = nil
	for _, s := range patterns {
		f.Hosts = append(f.Hosts, one(s, -1))
	}
	return f
}

// one gives a host of a filter; its pattern is what the text says, right or wrong.
func one(s string, port int) api.FilterHost {
	rest, wild := strings.CutPrefix(s, "*.")
	if s == "*" {
		rest, wild = "", true
	}
	return api.FilterHost{Pattern: api.HostPattern{Wild: wild, Name: rest}, Port: port}
}

// on gives a filter with paths.
func on(f api.Filter, paths ...api.FilterPath) api.Filter {
	f.Paths = paths
	return f
}

func verified(f api.Filter) api.Filter {
	f.AutoVerify = true
	return f
}

func exact(s string) api.FilterPath   { return api.FilterPath{Kind: api.PathExact, Text: s} }
func prefix(s string) api.FilterPath  { return api.FilterPath{Kind: api.PathPrefix, Text: s} }
func pattern(s string) api.FilterPath { return api.FilterPath{Kind: api.PathPattern, Text: s} }

// P24.2
func TestOpens(t *testing.T) {
	some := []string{api.ActionView, api.CategoryDefault, api.CategoryBrowsable, "x", strings.ToLower(api.ActionView), api.CategoryDefault + " "}
	// All choices of actions and of categories, forwards and backwards.
	for a := range 1 << len(some) {
		for c := range 1 << len(some) {
			f := api.Filter{Actions: chosen(some, a), Categories: chosen(some, c)}
			want := a&1 != 0 && c&2 != 0 && c&4 != 0
			same(t, f, filter.Opens(f), want)
			slices.Reverse(f.Actions)
			slices.Reverse(f.Categories)
			same(t, f, filter.Opens(f), want)
		}
	}
	same(t, "a filter with nothing", filter.Opens(api.Filter{}), false)
	same(t, "what else it has", filter.Opens(on(at(verified(opens("\xff")), "A"), exact("\xff"))), true)
}

func chosen(some []string, which int) []string {
	var list []string
	for i, s := range some {
		if which&(1<<i) != 0 {
			list = append(list, s)
		}
	}
	return list
}

// P24.2
func TestPath(t *testing.T) {
	for _, x := range []struct {
		p    api.FilterPath
		path string
		want bool
	}{
		{exact("/a"), "/a", true},
		{exact("/a"), "/ab", false},
		{exact("/a"), "/A", false},
		{exact("/a"), "", false},
		{exact(""), "", true},
		{exact("/%61"), "/a", false},
		{exact("/a.*"), "/ab", false},
		{exact("\xff"), "\xff", true},
		{prefix("/a"), "/a", true},
		{prefix("/a"), "/ab", true},
		{prefix("/a"), "/", false},
		{prefix("/a"), "/Ab", false},
		{prefix("/a"), "//a", false},
		{prefix(""), "", true},
		{prefix(""), "any", true},
		{prefix("/a.*"), "/abc", false},
		{prefix("\xc3"), "ü", true},
		{pattern("/a"), "/a", true},
		{pattern("/a"), "/ab", false},
		{pattern("/a.*"), "/abc", true},
		{pattern("/a*"), "/aaa", true},
		{pattern("/a*"), "/", true},
		{pattern("/.b"), "/üb", true},
		{pattern(`/\.b`), "/xb", false},
		{pattern(`/\.b`), "/.b", true},
		{pattern("/a.*b"), "/axxb", true},
		{pattern("/A"), "/a", false},
		{pattern(""), "", true},
		{pattern(".*"), "", true},
		{pattern("*"), "*", false},
		{pattern("a**"), "a", false},
		{pattern(`a\`), "a", false},
		{pattern("\xff"), "\xff", false},
		{pattern(".*"), "\xff", false},
		{pattern(strings.Repeat("a", 1024)), strings.Repeat("a", 1024), true},
		{pattern(strings.Repeat("a", 1025)), strings.Repeat("a", 1025), false},
		{exact(strings.Repeat("a", 1025)), strings.Repeat("a", 1025), true},
	} {
		same(t, []any{x.p, x.path}, filter.Path(x.p, x.path), x.want)
	}
	for _, kind := range []int{0, 4, -1, 5, 1 << 62, -1 << 63} {
		for _, s := range []string{"", "/a"} {
			same(t, kind, filter.Path(api.FilterPath{Kind: kind, Text: s}, s), false)
		}
	}
}

// grown gives all texts of up to so many of some parts.
func grown(parts []string, most int) []string {
	list := []string{""}
	for from, step := 0, 0; step < most; step++ {
		end := len(list)
		for _, s := range list[from:end] {
			for _, p := range parts {
				list = append(list, s+p)
			}
		}
		from = end
	}
	return list
}

// P24.2: of all short texts, against layer 15 and the language's own words.
func TestPathOfShortTexts(t *testing.T) {
	paths := grown([]string{"/", "a", "b", "*"}, 3)
	for _, s := range grown([]string{"a", ".", "*", `\`, "/"}, 3) {
		for _, path := range paths {
			same(t, []string{"exact", s, path}, filter.Path(exact(s), path), s == path)
			same(t, []string{"prefix", s, path}, filter.Path(prefix(s), path), len(path) >= len(s) && path[:len(s)] == s)
			same(t, []string{"pattern", s, path}, filter.Path(pattern(s), path), glob.Simple(s, path))
		}
	}
}

// matches asks which of some URLs a filter lets.
func matches(t *testing.T, f api.Filter, lets []string, lacks []string) {
	t.Helper()
	for _, s := range lets {
		same(t, s, filter.Match(f, read(t, s)), true)
	}
	for _, s := range lacks {
		same(t, s, filter.Match(f, read(t, s)), false)
	}
}

// P24.3, and the chapter's example.
func TestMatch(t *testing.T) {
	f := on(at(opens("https"), "*.x.com"), prefix("/a"))
	matches(t, f, []string{"https://www.x.com/ab", "HTTPS://WWW.X.com./%61b?q#f", "https://a.b.x.com:8443/a"}, []string{"https://x.com/a", "https://www.x.com/", "https://www.x.com", "http://www.x.com/ab", "https://www.y.com/ab", "app://www.x.com/ab", "https://www.x.com/A"})
}

// P24.3: its scheme, and what needs no host.
func TestMatchSchemes(t *testing.T) {
	matches(t, opens("app", "https"), []string{"app:", "app:x", "app://x.com/y", "APP:x", "https://x.com/", "https://1.2.3.4:5/", "app:%ff"}, []string{"apps:x", "ap:x", "http://x.com/"})
	matches(t, opens(), nil, []string{"app:x", "https://x.com/"})
	// What isn't canonical lets no URL that was read.
	matches(t, opens("App"), nil, []string{"app:x"})
	// Paths without hosts aren't looked at.
	matches(t, on(opens("app"), exact("/a"), api.FilterPath{Kind: 9}), []string{"app:/b", "app://x/%ff"}, nil)
	f := opens("app")
	for _, other := range []api.Filter{{Schemes: f.Schemes}, {Schemes: f.Schemes, Actions: f.Actions}, {Schemes: f.Schemes, Categories: f.Categories}, {Schemes: f.Schemes, Actions: f.Actions, Categories: f.Categories[:1]}, {Schemes: f.Schemes, Actions: f.Actions, Categories: f.Categories[1:]}} {
		matches(t, other, nil, []string{"app:x"})
	}
}

// P24.3: its host, and its port.
func TestMatchHosts(t *testing.T) {
	matches(t, at(opens("https", "app"), "x.com"), []string{"https://x.com/", "https://x.com:1/", "app://x.com", "app://x.com:7"}, []string{"https://www.x.com/", "app:x", "app:x.com", "app:///x.com", "https://1.2.3.4/"})
	matches(t, at(opens("https", "app"), "*"), []string{"https://x.com/", "app://y"}, []string{"app:x", "https://1.2.3.4/", "https://[::1]/"})
	matches(t, at(opens("https"), "[::1]", "1.2.3.4"), []string{"https://[::1]/", "https://0x1020304:9/"}, []string{"https://x.com/", "https://[::2]/"})
	f := opens("http", "https", "app")
	f.Hosts = []api.FilterHost{one("x.com", 443), one("y.com", 80), one("x.com", 8443), one("z.com", 0), one("v.com", 65535)}
	matches(t, f,
		[]string{"https://x.com/", "https://x.com:443/", "http://x.com:443/", "app://x.com:443/", "https://x.com:8443/", "http://y.com/", "https://y.com:80/", "https://z.com:0/", "app://v.com:65535"},
		[]string{"http://x.com/", "https://x.com:8442/", "https://y.com/", "http://y.com:443/", "https://y.com:8443/", "app://x.com/", "app://z.com", "https://z.com/", "app://v.com"})
	// A port that no filter has rightly is held against the URL's as it is.
	f.Hosts = []api.FilterHost{one("x.com", -2)}
	u := read(t, "app://x.com")
	same(t, "port -2 of a URL without a port", filter.Match(f, u), false)
	u.Port = -2
	same(t, "port -2 of a URL with this port", filter.Match(f, u), true)
	// A zero Host has the text that a pattern of no name has.
	f.Hosts = []api.FilterHost{{Port: -1}}
	same(t, "no name", filter.Match(f, read(t, "app:x")), true)
}

// P24.3: its path.
func TestMatchPaths(t *testing.T) {
	f := at(opens("https", "app"), "x.com")
	matches(t, f, []string{"https://x.com/%ff", "https://x.com/any", "app://x.com"}, nil)
	matches(t, on(f, exact("/a b"), exact("/ü"), exact("/%41"), pattern("/p.*z"), prefix("/%2f")),
		[]string{"https://x.com/a%20b", "https://x.com/%C3%BC", "https://x.com/ü", "https://x.com/%2541", "https://x.com/p%20%C3%BCz", "https://x.com/%252fq"},
		[]string{"https://x.com/A", "https://x.com/%41", "https://x.com/%2f", "https://x.com//", "https://x.com/p%FFz", "https://x.com/p%C3z", "app://x.com", "https://x.com/a+b"})
	matches(t, on(f, prefix("")), []string{"https://x.com/any", "app://x.com", "app://x.com?q"}, []string{"https://x.com/%ff", "https://x.com/a%C0%80", "https://x.com/%ED%A0%80"})
	matches(t, on(f, exact("")), []string{"app://x.com", "app://x.com?q#/f"}, []string{"https://x.com", "app://x.com/"})
	matches(t, on(f, prefix("/\xff"), exact("/\xff")), nil, []string{"https://x.com/%ff"})
	matches(t, on(f, api.FilterPath{Text: "/a"}, exact("/b")), []string{"https://x.com/b"}, []string{"https://x.com/a"})
	// The path alone counts, not the query, nor the fragment.
	matches(t, on(f, pattern("/a.*b")), []string{"https://x.com/ab?q", "https://x.com/axb#c"}, []string{"https://x.com/a?b", "https://x.com/a#b"})
	for _, path := range []string{"/%", "/%2", "/%zz", "/a%", "%\xff", "\xff"} {
		u := read(t, "https://x.com/")
		u.Path = path
		same(t, path, filter.Match(on(f, prefix("")), u), false)
		same(t, path+" where there are no paths", filter.Match(f, u), true)
	}
}

// lists are what the filters of the checks against the chapter's words are made of.
type lists struct {
	actions, categories, schemes [][]string
	hosts                        [][]api.FilterHost
	paths                        [][]api.FilterPath
}

// each tells all filters of which these are the lists, with AutoVerify and without.
func (l lists) each(tell func(api.Filter)) {
	for _, actions := range l.actions {
		for _, categories := range l.categories {
			for _, schemes := range l.schemes {
				for _, hosts := range l.hosts {
					for _, paths := range l.paths {
						f := api.Filter{Actions: actions, Categories: categories, Schemes: schemes, Hosts: hosts, Paths: paths}
						tell(f)
						tell(verified(f))
					}
				}
			}
		}
	}
}

// opening tells by the chapter's words whether a filter opens URLs.
func opening(f api.Filter) bool {
	view, fallback, browsable := 0, 0, 0
	for _, s := range f.Actions {
		if s == "android.intent.action.VIEW" {
			view++
		}
	}
	for _, s := range f.Categories {
		switch s {
		case "android.intent.category.DEFAULT":
			fallback++
		case "android.intent.category.BROWSABLE":
			browsable++
		}
	}
	return view > 0 && fallback > 0 && browsable > 0
}

// web tells by the chapter's words whether a filter has a web scheme.
func web(f api.Filter) bool {
	for _, s := range f.Schemes {
		if s == "http" || s == "https" {
			return true
		}
	}
	return false
}

// lets tells by the chapter's words whether a filter lets a URL.
func lets(f api.Filter, u api.URL) bool {
	scheme, site, path := false, len(f.Hosts) == 0, len(f.Hosts) == 0 || len(f.Paths) == 0
	for _, s := range f.Schemes {
		scheme = scheme || s == u.Scheme
	}
	for _, x := range f.Hosts {
		site = site || host.Match(x.Pattern, u.Host) && (x.Port == -1 || x.Port == u.Port)
	}
	if b, err := percent.Decode(u.Path); err == nil && utf.Valid(b) == nil {
		for _, p := range f.Paths {
			path = path || filter.Path(p, string(b))
		}
	}
	return opening(f) && scheme && site && path
}

// P24.3 and P24.4: of all filters of some lists, against the chapter's words.
func TestMatchOfAll(t *testing.T) {
	var urls []api.URL
	for _, s := range []string{"https://x.com/a", "http://x.com/b", "https://w.x.com:8443/%61b", "https://1.2.3.4/%ff", "app:a", "app://x.com/", "app://x.com:443/a", "https://[::1]/a"} {
		urls = append(urls, read(t, s))
	}
	hosts := []api.Host{{}, {Kind: 9, Text: "x.com"}, {Kind: api.HostV6, Text: "x.com"}}
	for _, s := range []string{"x.com", "w.x.com", "v.w.x.com", "com", "1.2.3.4", "[::1]"} {
		hosts = append(hosts, hostOf(t, s))
	}
	full := opens()
	lists{
		actions:    [][]string{nil, full.Actions, {"x"}},
		categories: [][]string{nil, full.Categories, full.Categories[:1], {"y", api.CategoryBrowsable, api.CategoryDefault}},
		schemes:    [][]string{nil, {"https"}, {"app"}, {"app", "http"}, {"HTTPS"}},
		hosts:      [][]api.FilterHost{nil, {one("x.com", -1)}, {one("*.x.com", 8443), one("x.com", 443)}, {one("*", -1)}, {one("1.2.3.4", -1), one("[::1]", 443)}, {one("", -1)}},
		paths:      [][]api.FilterPath{nil, {exact("/a")}, {prefix("/a"), pattern(".*b")}, {{Kind: 7, Text: "/a"}, prefix("")}},
	}.each(func(f api.Filter) {
		for _, u := range urls {
			same(t, []any{f, u}, filter.Match(f, u), lets(f, u))
		}
		for _, h := range hosts {
			meant := false
			for _, x := range f.Hosts {
				meant = meant || host.Match(x.Pattern, h)
			}
			same(t, []any{f, h}, filter.Claims(f, h), f.AutoVerify && opening(f) && web(f) && meant)
		}
	})
}

// P24.4
func TestClaims(t *testing.T) {
	f := verified(at(opens("app", "https"), "x.com", "*.y.com", "1.2.3.4", "[::1]"))
	f.Hosts[0].Port = 8443
	f.Paths = []api.FilterPath{exact("/a")}
	claims := func(s string, want bool) {
		t.Helper()
		same(t, s, filter.Claims(f, hostOf(t, s)), want)
	}
	for _, s := range []string{"x.com", "X.com.", "a.y.com", "a.b.y.com", "1.2.3.4", "[::1]"} {
		claims(s, true)
	}
	for _, s := range []string{"a.x.com", "y.com", "z.com", "com", "1.2.3.5", "[::2]"} {
		claims(s, false)
	}
	f.Schemes = []string{"http"}
	claims("x.com", true)
	f.Schemes = []string{"app", "httpsx", "HTTPS"}
	claims("x.com", false)
	f.Schemes = []string{"https"}
	f.AutoVerify = false
	claims("x.com", false)
	f.AutoVerify = true
	f.Actions = []string{"x"}
	claims("x.com", false)
	f.Actions = []string{"x", api.ActionView}
	claims("x.com", true)
	f.Hosts = nil
	claims("x.com", false)
	f.Hosts = []api.FilterHost{one("*", 7)}
	claims("x.com", true)
	claims("1.2.3.4", false)
}

// P24.4
func TestRoots(t *testing.T) {
	f := verified(at(opens("app", "http"), "b.com", "*.a.com", "*", "1.2.3.4", "[::1]", "a.com", "*.b.com", "c", "b.com"))
	want := []string{"b.com", "a.com", "c"}
	sameHosts(t, f, filter.Roots(f), want...)
	f.Hosts[0].Port, f.Hosts[7].Port = 443, 1
	sameHosts(t, "whatever the ports are", filter.Roots(on(f, exact("/a"))), want...)
	for what, hosts := range map[string][]api.FilterHost{
		"no hosts":              nil,
		"no names":              at(f, "*", "1.2.3.4", "[::1]", "").Hosts,
		"addresses, wild":       at(f, "*.1.2.3.4", "*.[::1]").Hosts,
		"texts of addresses":    at(f, "0x7f.1", "256", "x.1", "x.0x", "x.1.", "[", "[x", "*.[x", "999.999").Hosts,
		"Wild beside no name":   {{Pattern: api.HostPattern{Wild: true}, Port: -1}},
		"no name, without Wild": {{Port: -1}},
	} {
		f.Hosts = hosts
		sameHosts(t, what, filter.Roots(f))
	}
	// Names that no pattern has rightly are told as they are.
	sameHosts(t, "names as they are", filter.Roots(at(f, "A.com", "1.x", "::1", "x.0y", " ", "\xff", "*.*", "a.com")), "A.com", "1.x", "::1", "x.0y", " ", "\xff", "*", "a.com")

	f = verified(at(opens("https"), "b.com"))
	sameHosts(t, f, filter.Roots(f), "b.com")
	for what, change := range map[string]func(f *api.Filter){
		"without AutoVerify":  func(f *api.Filter) { f.AutoVerify = false },
		"without an action":   func(f *api.Filter) { f.Actions = nil },
		"without a category":  func(f *api.Filter) { f.Categories = f.Categories[1:] },
		"without a scheme":    func(f *api.Filter) { f.Schemes = nil },
		"of no web scheme":    func(f *api.Filter) { f.Schemes = []string{"app", "HTTPS", "httpx"} },
		"of actions mixed up": func(f *api.Filter) { f.Actions, f.Categories = f.Categories, f.Actions },
	} {
		g := f
		change(&g)
		sameHosts(t, what, filter.Roots(g))
	}
}

// P24.1: filters that are right.
func TestCheckRight(t *testing.T) {
	full := opens("app", "http", "https", "x+y-1.z", strings.Repeat("a", 64))
	many := slices.Repeat([]string{"x"}, 64)
	for _, f := range []api.Filter{
		{Actions: []string{""}},
		{Actions: []string{"\xff"}, Categories: []string{"\xff", ""}},
		full,
		opens(),
		at(full, "x.com", "*.x.com", "*", "1.2.3.4", "[::1]", "xn--bcher-kva", "x.com"),
		{Actions: []string{"x"}, Schemes: []string{"app"}, Hosts: []api.FilterHost{one("x", -1), one("x", 0), one("x", 65535)}},
		on(at(full, "x"), exact(""), prefix(""), pattern(""), exact("*"), prefix(`\`), exact("ü"), pattern(`/a.*\*ü*`), exact(strings.Repeat("a", 1<<16)), pattern(strings.Repeat("a", 1024))),
		verified(at(opens("https"), "x")),
		verified(at(opens("app", "http"), "1.2.3.4")),
		verified(on(at(opens("http"), "*"), exact("/"))),
		{Actions: many, Categories: many, Schemes: many, Hosts: slices.Repeat([]api.FilterHost{one("x", -1)}, 64), Paths: slices.Repeat([]api.FilterPath{exact("x")}, 64)},
	} {
		checks(t, f, told{})
	}
}

// P24.1: lists that are too long.
func TestCheckMany(t *testing.T) {
	many := make([]string, 65)
	for _, f := range []api.Filter{
		{Actions: many},
		{Categories: many},
		{Schemes: many},
		{Hosts: make([]api.FilterHost, 65)},
		{Paths: make([]api.FilterPath, 65)},
		{Actions: many, Categories: many, Schemes: many, Hosts: make([]api.FilterHost, 1000), Paths: make([]api.FilterPath, 1000), AutoVerify: true},
	} {
		checks(t, f, told{kind: api.ErrMany})
	}
}

// P24.1: hosts without schemes, and paths without hosts.
func TestCheckLost(t *testing.T) {
	for _, n := range []int{1, 2, 64} {
		f := opens()
		f.Hosts = slices.Repeat([]api.FilterHost{one("X", 1<<62)}, n)
		checks(t, f, told{kind: api.ErrHost})
		f = opens("app")
		f.Paths = slices.Repeat([]api.FilterPath{{Text: "\xff"}}, n)
		checks(t, f, told{kind: api.ErrForm})
		f.Schemes = nil
		checks(t, f, told{kind: api.ErrForm})
		// Right by themselves.
		checks(t, on(opens("app"), slices.Repeat([]api.FilterPath{exact("/")}, n)...), told{kind: api.ErrForm})
		checks(t, at(opens(), slices.Repeat([]string{"x"}, n)...), told{kind: api.ErrHost})
	}
}

// P24.1: what a filter with AutoVerify must have.
func TestCheckVerified(t *testing.T) {
	f := verified(at(opens("app", "http"), "x"))
	checks(t, f, told{})
	for what, change := range map[string]func(f *api.Filter){
		"no host":       func(f *api.Filter) { f.Hosts = nil },
		"no web scheme": func(f *api.Filter) { f.Schemes = []string{"app", "httpx"} },
		"no view":       func(f *api.Filter) { f.Actions = []string{api.CategoryDefault} },
		"no default":    func(f *api.Filter) { f.Categories = []string{api.CategoryBrowsable} },
		"no browsable":  func(f *api.Filter) { f.Categories = []string{api.CategoryDefault} },
		"no category":   func(f *api.Filter) { f.Categories = nil },
	} {
		g := f
		change(&g)
		same(t, what, tells(filter.Check(g)), told{kind: api.ErrState})
		g.AutoVerify = false
		same(t, what+", without AutoVerify", tells(filter.Check(g)), told{})
	}
}

// P24.1: each wrong scheme, host and path, behind right ones.
func TestCheckPlaces(t *testing.T) {
	for _, s := range []string{"", "1", "a:", "é", "a b", "\xff", strings.Repeat("a", 65), "A1!", "App", "aP", "HTTPS", "zZ"} {
		inner := ident.Scheme(s)
		checks(t, opens(s), told{api.ErrScheme, 0, inner})
		checks(t, opens("app", "https", s, "1"), told{api.ErrScheme, 2, inner})
	}
	for _, s := range []string{"", "X.com", "x.com.", "a..b", "*.*", "*.1.2.3.4", "*.[::1]", "0x7f.1", "1.2.3", "::1", "[::1", "[::0]", "[1::0:0:0:0:0:0:2]", "b%c3%bccher", "bücher", "x y", "x%41", "\xff"} {
		f := at(opens("app"), s)
		checks(t, f, told{kind: api.ErrHost})
		checks(t, at(f, "x", "*", s, "X"), told{kind: api.ErrHost, at: 2})
	}
	// A text that begins with a star is another pattern's, one of names beneath.
	for _, p := range []api.HostPattern{{Name: "*"}, {Name: "*.x.com"}, {Wild: true, Name: "*"}} {
		f := opens("app")
		f.Hosts = []api.FilterHost{one("x", -1), {Pattern: p, Port: -1}}
		checks(t, f, told{kind: api.ErrHost, at: 1})
	}
	for _, port := range []int{-2, 65536, 1 << 62, -1 << 63, 1<<16 + 443} {
		f := opens("app")
		f.Hosts = []api.FilterHost{one("x", 443), one("*", port), one("X", -1)}
		checks(t, f, told{kind: api.ErrPort, at: 1})
		f.Hosts[0] = one("X", port)
		checks(t, f, told{kind: api.ErrHost, at: 0})
	}
	f := at(opens("app"), "x")
	for _, kind := range []int{0, 4, -1, 1 << 62, -1 << 63} {
		checks(t, on(f, exact(""), api.FilterPath{Kind: kind, Text: "/a"}), told{kind: api.ErrForm, at: 1})
		checks(t, on(f, api.FilterPath{Kind: kind, Text: "\xff"}), told{kind: api.ErrForm, at: 0})
	}
	for _, s := range wrongTexts {
		for _, p := range []api.FilterPath{exact(s), prefix(s), pattern(s), exact("/ü" + s), pattern("*" + s), pattern(strings.Repeat("a", 1025) + s)} {
			checks(t, on(f, exact("/"), p, exact("\xff")), told{api.ErrForm, 1, utf.Valid([]byte(p.Text))})
		}
	}
	for _, s := range []string{"*", "/a**", `\`, `/a\`, ".**", strings.Repeat("a", 1025), `\**a*b**`} {
		checks(t, on(f, prefix(s), exact(s), pattern(s)), told{api.ErrForm, 2, glob.CheckSimple(s)})
	}
}

// judged gives by the chapter's words what is wrong with a filter.
func judged(f api.Filter) told {
	for _, n := range []int{len(f.Actions), len(f.Categories), len(f.Schemes), len(f.Hosts), len(f.Paths)} {
		if n > 64 {
			return told{kind: api.ErrMany}
		}
	}
	if len(f.Actions) == 0 {
		return told{kind: api.ErrArg}
	}
	for i, s := range f.Schemes {
		if err := ident.Scheme(s); err != nil || s != strings.ToLower(s) {
			return told{api.ErrScheme, i, err}
		}
	}
	if len(f.Hosts) > 0 && len(f.Schemes) == 0 {
		return told{kind: api.ErrHost}
	}
	for i, x := range f.Hosts {
		if p, err := host.Pattern(host.PatternText(x.Pattern)); err != nil || p != x.Pattern {
			return told{kind: api.ErrHost, at: i}
		}
		if x.Port < -1 || x.Port > 65535 {
			return told{kind: api.ErrPort, at: i}
		}
	}
	if len(f.Paths) > 0 && len(f.Hosts) == 0 {
		return told{kind: api.ErrForm}
	}
	for i, p := range f.Paths {
		if p.Kind < 1 || p.Kind > 3 {
			return told{kind: api.ErrForm, at: i}
		}
		if err := utf.Valid([]byte(p.Text)); err != nil {
			return told{api.ErrForm, i, err}
		}
		if err := glob.CheckSimple(p.Text); err != nil && p.Kind == 3 {
			return told{api.ErrForm, i, err}
		}
	}
	if f.AutoVerify && (!opening(f) || !web(f) || len(f.Hosts) == 0) {
		return told{kind: api.ErrState}
	}
	return told{}
}

// P24.1: the order of all errors, of all filters of some lists.
func TestCheckOfAll(t *testing.T) {
	full := opens()
	there := map[api.Errno]int{}
	lists{
		actions:    [][]string{nil, full.Actions, {"x"}, make([]string, 65)},
		categories: [][]string{full.Categories, full.Categories[1:], slices.Repeat(full.Categories, 33)},
		schemes:    [][]string{nil, {"https"}, {"app"}, {"app", "http", "Z", "1"}, {"1", "Z"}, slices.Repeat([]string{"Z"}, 65)},
		hosts:      [][]api.FilterHost{nil, {one("x.com", -1)}, {one("*", 443), one("X", -1), one("x", -2)}, {one("*", 443), one("x", -2), one("X", -1)}, {one("*", 443), one("X", -2)}, slices.Repeat([]api.FilterHost{one("X", -2)}, 65)},
		paths:      [][]api.FilterPath{nil, {exact("/a"), pattern("/.*")}, {exact("/a"), {}, exact("\xff")}, {exact("*"), pattern("*"), {}}, {prefix("\xff"), pattern("*")}, slices.Repeat([]api.FilterPath{{}}, 65)},
	}.each(func(f api.Filter) {
		want := judged(f)
		there[want.kind]++
		checks(t, f, want)
	})
	same(t, "how many kinds of errors, and right ones, were met", len(there), 8)
}

// spare gives a list with room behind it, and all of its room.
func spare[T any](more T, list ...T) (short, whole []T) {
	whole = append(slices.Clone(list), more, more)
	return whole[:len(list)], whole
}

// P24.5: what is handed in stays, its spare room, too, and may be written over behind the call.
func TestHandedInStays(t *testing.T) {
	var f api.Filter
	var allActions, allCategories, allSchemes []string
	var allHosts []api.FilterHost
	var allPaths []api.FilterPath
	f.AutoVerify = true
	f.Actions, allActions = spare(api.CategoryDefault, "x", api.ActionView)
	f.Categories, allCategories = spare(api.ActionView, api.CategoryBrowsable, api.CategoryDefault)
	f.Schemes, allSchemes = spare("Z", "https", "app")
	f.Hosts, allHosts = spare(one("z", 7), one("y.com", -1), one("*.x.com", 443))
	f.Paths, allPaths = spare(exact("\xff"), pattern("/p.*"), exact("/a"))
	u := read(t, "https://w.x.com/a")

	checks(t, f, told{})
	same(t, "Match", filter.Match(f, u), true)
	same(t, "Opens", filter.Opens(f), true)
	same(t, "Claims", filter.Claims(f, u.Host), true)
	roots := filter.Roots(f)
	sameHosts(t, "Roots", roots, "y.com", "x.com")

	same(t, "the actions", allActions, []string{"x", api.ActionView, api.CategoryDefault, api.CategoryDefault})
	same(t, "the categories", allCategories, []string{api.CategoryBrowsable, api.CategoryDefault, api.ActionView, api.ActionView})
	same(t, "the schemes", allSchemes, []string{"https", "app", "Z", "Z"})
	same(t, "the hosts", allHosts, []api.FilterHost{one("y.com", -1), one("*.x.com", 443), one("z", 7), one("z", 7)})
	same(t, "the paths", allPaths, []api.FilterPath{pattern("/p.*"), exact("/a"), exact("\xff"), exact("\xff")})
	clear(allHosts)
	sameHosts(t, "Roots, behind that", roots, "y.com", "x.com")
}

func share(a, b string) bool {
	return len(a) > 0 && len(b) > 0 && unsafe.StringData(a) == unsafe.StringData(b)
}

// P24.5: what is answered may be written over, its spare room, too.
func TestAnswersAreNew(t *testing.T) {
	f := verified(at(opens("https"), "a.com", "b.com", "c.com"))
	got, again := filter.Roots(f), filter.Roots(f)
	for i, h := range got {
		same(t, "whether the text is the filter's own", share(h.Text, f.Hosts[i].Pattern.Name), false)
	}
	clear(got[:cap(got)])
	sameHosts(t, "the other answer", again, "a.com", "b.com", "c.com")
	sameHosts(t, "the next answer", filter.Roots(f), "a.com", "b.com", "c.com")

	wrong := opens("app", "1")
	filter.Check(wrong).(*api.Fault).At = 9
	checks(t, wrong, told{api.ErrScheme, 1, ident.Scheme("1")})
}

// P1 and P2: all calls end, none panics, and a second run answers what the first one did.
func TestAnyArguments(t *testing.T) {
	long := strings.Repeat("a", 1<<16)
	texts := []string{"", "\xff", "%", "*", `\`, "[", "https", "x.com", long}
	var filters []api.Filter
	var urls []api.URL
	for i, s := range texts {
		other := texts[(i+1)%len(texts)]
		f := opens(s, other)
		f.Hosts = []api.FilterHost{one(s, 1<<62), {Pattern: api.HostPattern{Wild: true, Name: other}, Port: -1 << 63}, {Port: -1}}
		f.Paths = []api.FilterPath{exact(s), prefix(other), pattern(s), {Kind: -1, Text: s}}
		filters = append(filters, f, verified(f), api.Filter{Actions: []string{s}, Paths: f.Paths}, api.Filter{Schemes: f.Schemes, AutoVerify: true})
		urls = append(urls, api.URL{Scheme: s, Path: other}, api.URL{Scheme: "https", Host: api.Host{Kind: api.HostName, Text: s}, Port: -1 << 63, Path: s, HasQuery: true, Query: other}, api.URL{Scheme: s, Host: api.Host{Kind: -1 << 62, Text: other}, Port: 1 << 62, Path: "/"})
	}
	filters = append(filters, api.Filter{}, api.Filter{Actions: make([]string, 1<<16), Hosts: make([]api.FilterHost, 1<<16)})
	run := func() []any {
		var all []any
		for _, f := range filters {
			all = append(all, tells(filter.Check(f)), filter.Opens(f), filter.Roots(f))
			for _, u := range urls {
				all = append(all, filter.Match(f, u), filter.Claims(f, u.Host))
				for _, p := range f.Paths {
					all = append(all, filter.Path(p, u.Path))
				}
			}
		}
		return all
	}
	if !reflect.DeepEqual(run(), run()) {
		t.Error("a second run answers something else")
	}
}
