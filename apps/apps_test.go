package apps_test

import (
	"errors"
	"reflect"
	"slices"
	"strconv"
	"strings"
	"testing"
	"unsafe"

	"waybill/api"
	"waybill/apps"
	"waybill/filter"
	"waybill/host"
	"waybill/ident"
	"waybill/url"
)

func same(t *testing.T, what any, got, want any) {
	t.Helper()
	if !reflect.DeepEqual(got, want) {
		t.Errorf("%+v: got %+v, want %+v", what, got, want)
	}
}

// sameTexts holds no list and one without elements for one.
func sameTexts(t *testing.T, what any, got []string, want ...string) {
	t.Helper()
	if !slices.Equal(got, want) {
		t.Errorf("%+v: got %q, want %q", what, got, want)
	}
}

// sameHosts asks for names.
func sameHosts(t *testing.T, what any, got []api.Host, want ...string) {
	t.Helper()
	var names []string
	for _, h := range got {
		same(t, what, h.Kind, api.HostName)
		names = append(names, h.Text)
	}
	sameTexts(t, what, names, want...)
}

// told is an error as the chapters tell it: kind 0 is none.
type told struct {
	kind  api.Errno
	at    int
	inner error
}

// tells gives the error that an error is; of one that isn't a fault a kind below 0.
func tells(err error) told {
	if err == nil {
		return told{}
	}
	f, ok := err.(*api.Fault)
	if !ok || f == nil || !errors.Is(err, f.Kind) {
		return told{kind: -1}
	}
	return told{f.Kind, f.At, f.Inner}
}

// checks asks for the same error of Check and of Install.
func checks(t *testing.T, m api.Manifest, want told) {
	t.Helper()
	same(t, m, tells(apps.Check(m)), want)
	s := apps.New()
	same(t, m, tells(s.Install(m)), want)
	same(t, "how many apps there are then", s.Len(), len(ids(s)))
	same(t, "whether it is installed", s.Len() == 1, want.kind == 0)
}

// ids gives the names of all apps.
func ids(s *apps.Set) []string {
	var list []string
	for id := range s.All() {
		list = append(list, id)
	}
	return list
}

func read(t *testing.T, s string) api.URL {
	t.Helper()
	u, err := url.Parse(s)
	if err != nil {
		t.Fatalf("%q: %v", s, err)
	}
	return u
}

func hostOf(t *testing.T, s string) api.Host {
	t.Helper()
	h, err := host.Canon(s)
	if err != nil {
		t.Fatalf("%q: %v", s, err)
	}
	return h
}

// pattern gives what a text says of a host's pattern, right or wrong.
func pattern(s string) api.HostPattern {
	rest, wild := strings.CutPrefix(s, "*.")
	if s == "*" {
		rest, wild = "", true
	}
	return api.HostPattern{Wild: wild, Name: rest}
}

func patterns(list ...string) []api.HostPattern {
	var others []api.HostPattern
	for _, s := range list {
		others = append(others, pattern(s))
	}
	return others
}

var appX = api.AppID{Team: "ABCDE12345", Bundle: "com.x"}

// apple gives an app of Apple's with domains.
func apple(id string, domains ...string) api.Manifest {
	return api.Manifest{ID: id, Apple: true, App: appX, Domains: patterns(domains...)}
}

// custom gives an app of Apple's with schemes.
func custom(id string, schemes ...string) api.Manifest {
	m := apple(id)
	m.Schemes = schemes
	return m
}

// android gives an app of Android's with filters.
func android(id string, filters ...api.Filter) api.Manifest {
	return api.Manifest{ID: id, Package: "com.x", Prints: []api.Print{{1}}, Filters: filters}
}

// opens gives a filter that opens URLs of a scheme at hosts of any port.
func opens(scheme string, hosts ...string) api.Filter {
	f := api.Filter{Actions: []string{api.ActionView}, Categories: []string{api.CategoryDefault, api.CategoryBrowsable}, Schemes: []string{scheme}}
	for _, p := range patterns(hosts...) {
		f.Hosts = append(f.Hosts, api.FilterHost{Pattern: p, Port: -1})
	}
	return f
}

// claims gives such a filter that is verified.
func claims(scheme string, hosts ...string) api.Filter {
	f := opens(scheme, hosts...)
	f.AutoVerify = true
	return f
}

func install(t *testing.T, s *apps.Set, list ...api.Manifest) {
	t.Helper()
	for _, m := range list {
		same(t, "Install of "+m.ID, s.Install(m), error(nil))
	}
}

// set gives a Set with some apps.
func set(t *testing.T, list ...api.Manifest) *apps.Set {
	t.Helper()
	s := apps.New()
	install(t, s, list...)
	return s
}

// P25.1: manifests that are right.
func TestCheckRight(t *testing.T) {
	many := claims("https", "x")
	for _, m := range []api.Manifest{
		apple("x"),
		apple("\x00 ü€", "x.com", "*.x.com", "x", "xn--bcher-kva", "*.com", "x.com"),
		apple(strings.Repeat("a", 100), slices.Repeat([]string{"x"}, 64)...),
		custom("x", "app", "a+b-1.c", strings.Repeat("a", 64), "app", "httpx"),
		custom("x", slices.Repeat([]string{"app"}, 64)...),
		{ID: "x", Apple: true, App: api.AppID{Team: "0000000000", Bundle: strings.Repeat("b", 155)}},
		{ID: "x", Apple: true, App: api.AppID{Team: "ABCDE12345", Bundle: ".a."}},
		android("x"),
		android(strings.Repeat("ü", 50), opens("app"), many, api.Filter{Actions: []string{"x"}}),
		android("x", slices.Repeat([]api.Filter{many}, 32)...),
		{ID: "x", Package: "a.b", Prints: make([]api.Print, 8)},
		// What is told of the other kind isn't looked at.
		{ID: "x", Apple: true, App: appX, Package: "\xff", Prints: make([]api.Print, 99), Filters: make([]api.Filter, 99)},
		{ID: "x", Package: "a.b", Prints: make([]api.Print, 1), App: api.AppID{Team: "\xff"}, Domains: make([]api.HostPattern, 99), Schemes: make([]string, 99)},
	} {
		checks(t, m, told{})
	}
}

// P25.1: the name of all apps, the names of Apple's and of Android's.
func TestCheckNames(t *testing.T) {
	for _, id := range []string{"", strings.Repeat("a", 101), strings.Repeat("ü", 51), strings.Repeat("\xff", 101), "\xff", "a\xc0\x80", "\xed\xa0\x80", "a\xe2\x82"} {
		for _, m := range []api.Manifest{apple(id), android(id), {ID: id}, {ID: id, Apple: true}} {
			checks(t, m, told{kind: api.ErrName})
		}
	}
	for _, app := range []api.AppID{{}, {Team: "ABCDE12345"}, {Bundle: "com.x"}, {Team: "abcde12345", Bundle: "x"}, {Team: "ABCDE1234", Bundle: "x"}, {Team: "ABCDE123456", Bundle: "x"}, {Team: "ABCDE12345", Bundle: "x_y"}, {Team: "ABCDE12345", Bundle: strings.Repeat("b", 156)}, {Team: "ABCDE12345.", Bundle: "ü"}} {
		_, inner := ident.App(app.Team + "." + app.Bundle)
		same(t, app, inner != nil, true)
		checks(t, api.Manifest{ID: "x", Apple: true, App: app}, told{api.ErrForm, 0, inner})
	}
	// The text is another app's.
	for _, app := range []api.AppID{{Team: "ABCDE12345.com", Bundle: "x"}, {Team: "ABCDE12345."}, {Team: "ABCDE12345.a.b"}, {Team: "ABCDE12345.", Bundle: "x"}} {
		checks(t, api.Manifest{ID: "x", Apple: true, App: app}, told{kind: api.ErrForm})
	}
	for _, name := range []string{"", "com", "com.", ".com", "com..x", "1.x", "com.x-y", "\xff", "a." + strings.Repeat("b", 222)} {
		m := android("x")
		m.Package = name
		checks(t, m, told{api.ErrForm, 0, ident.Package(name)})
	}
}

// P25.1: lists that are too long, or too short.
func TestCheckMany(t *testing.T) {
	many := told{kind: api.ErrMany}
	checks(t, apple("x", make([]string, 65)...), many)
	checks(t, custom("x", make([]string, 65)...), many)
	m := android("x")
	for _, n := range []int{0, 9, 1000} {
		m.Prints = make([]api.Print, n)
		checks(t, m, many)
	}
	checks(t, android("x", make([]api.Filter, 33)...), many)
}

// P25.1: each wrong domain, scheme and filter, behind right ones.
func TestCheckPlaces(t *testing.T) {
	for _, s := range []string{"", "*", "1.2.3.4", "[::1]", "*.1.2.3.4", "*.[::1]", "X.com", "x.com.", "a..b", "*.*", "0x7f.1", "::1", "bücher", "\xff"} {
		checks(t, apple("x", s), told{kind: api.ErrHost})
		checks(t, apple("x", "a.com", "*.a.com", s, "X"), told{kind: api.ErrHost, at: 2})
	}
	for _, p := range []api.HostPattern{{Name: "*"}, {Name: "*.x.com"}, {Wild: true, Name: "*"}} {
		m := apple("x", "x.com", "y.com")
		m.Domains[1] = p
		checks(t, m, told{kind: api.ErrHost, at: 1})
	}
	for _, s := range []string{"", "1", "a:", "é", "\xff", strings.Repeat("a", 65), "A!", "App", "HTTP", "http", "https"} {
		inner := ident.Scheme(s)
		checks(t, custom("x", s), told{api.ErrScheme, 0, inner})
		checks(t, custom("x", "app", "b", s, "1"), told{api.ErrScheme, 2, inner})
	}
	for _, f := range []api.Filter{{}, opens("1"), opens("App"), opens("app", "X"), claims("app", "x"), {Actions: make([]string, 65)}} {
		inner := filter.Check(f)
		same(t, f, inner != nil, true)
		checks(t, android("x", f), told{api.ErrKind, 0, inner})
		checks(t, android("x", opens("app"), claims("http", "x"), f, api.Filter{}), told{api.ErrKind, 2, inner})
	}
}

// P25.1: the order of all errors, of all manifests of some parts.
func TestCheckOrder(t *testing.T) {
	type way struct {
		change func(m *api.Manifest)
		kind   api.Errno
		at     int
	}
	id := way{func(m *api.Manifest) { m.ID = "" }, api.ErrName, 0}
	kinds := map[bool][]way{
		true: {
			id,
			{func(m *api.Manifest) { m.App.Team += ".a" }, api.ErrForm, 0},
			{func(m *api.Manifest) { m.Schemes = append(m.Schemes, make([]string, 65)...) }, api.ErrMany, 0},
			{func(m *api.Manifest) { m.Domains = append(m.Domains, pattern("*"), pattern("X")) }, api.ErrHost, 1},
			{func(m *api.Manifest) { m.Schemes = append(slices.Clone(m.Schemes[:2]), "https", "1") }, api.ErrScheme, 2},
		},
		false: {
			id,
			{func(m *api.Manifest) { m.Package = "x" }, api.ErrForm, 0},
			{func(m *api.Manifest) { m.Prints = nil }, api.ErrMany, 0},
			{func(m *api.Manifest) { m.Filters = append(m.Filters, api.Filter{}, opens("1")) }, api.ErrKind, 1},
		},
	}
	for isApple, ways := range kinds {
		for which := range 1 << len(ways) {
			m := android("x", opens("app"))
			m.Apple, m.App, m.Domains, m.Schemes = isApple, appX, patterns("x.com"), []string{"app", "b"}
			want := told{}
			// The later ways lie ahead: those of a list leave room for that by which it is too long.
			for i := len(ways) - 1; i >= 0; i-- {
				if which&(1<<i) != 0 {
					ways[i].change(&m)
					want = told{kind: ways[i].kind, at: ways[i].at}
				}
			}
			got := tells(apps.Check(m))
			got.inner = nil
			same(t, m, got, want)
		}
	}
}

// P25.2
func TestInstall(t *testing.T) {
	s := apps.New()
	same(t, "Len", s.Len(), 0)
	sameTexts(t, "All", ids(s))
	install(t, s, apple("b"), android("a"), apple("c"), android("B"))
	sameTexts(t, "All", ids(s), "b", "a", "c", "B")
	same(t, "Len", s.Len(), 4)
	for _, m := range []api.Manifest{apple("a"), android("a"), android("b", opens("app")), apple("c")} {
		same(t, "Install of an app that there is", tells(s.Install(m)), told{kind: api.ErrThere})
	}
	wrong := apple("a", "X")
	same(t, "Install of a wrong one that there is", tells(s.Install(wrong)), told{kind: api.ErrHost})
	got, err := s.Get("a")
	same(t, "Get of the one that there was", []any{got, err}, []any{android("a"), nil})
	sameTexts(t, "All", ids(s), "b", "a", "c", "B")

	for _, id := range []string{"", "x", "ab", "A", "\xff"} {
		same(t, "Uninstall of "+id, tells(s.Uninstall(id)), told{kind: api.ErrName})
		got, err := s.Get(id)
		same(t, "Get of "+id, []any{got, tells(err)}, []any{api.Manifest{}, told{kind: api.ErrName}})
	}
	same(t, "Len", s.Len(), 4)
	same(t, "Uninstall", s.Uninstall("a"), error(nil))
	sameTexts(t, "All", ids(s), "b", "c", "B")
	same(t, "Uninstall again", tells(s.Uninstall("a")), told{kind: api.ErrName})
	install(t, s, apple("a", "x.com"))
	sameTexts(t, "All", ids(s), "b", "c", "B", "a")
	got, err = s.Get("a")
	same(t, "Get of what was installed again", []any{bare(got), err}, []any{bare(apple("a", "x.com")), nil})
	for _, id := range []string{"a", "b", "c", "B"} {
		same(t, "Uninstall", s.Uninstall(id), error(nil))
	}
	sameTexts(t, "All", ids(s))
	same(t, "Len", s.Len(), 0)
}

// P25.2: so many apps as there may be.
func TestInstallMost(t *testing.T) {
	s := apps.New()
	for n := range 64 {
		install(t, s, apple(strconv.Itoa(n)))
	}
	for range 2 {
		same(t, "one more", tells(s.Install(android("x"))), told{kind: api.ErrMany})
		same(t, "one that there is", tells(s.Install(android("63"))), told{kind: api.ErrThere})
		same(t, "a wrong one", tells(s.Install(android(""))), told{kind: api.ErrName})
		same(t, "Len", s.Len(), 64)
	}
	same(t, "Uninstall", s.Uninstall("7"), error(nil))
	install(t, s, android("x"))
	same(t, "one more", tells(s.Install(android("7"))), told{kind: api.ErrMany})
	list := ids(s)
	sameTexts(t, "the first ones", list[:9], "0", "1", "2", "3", "4", "5", "6", "8", "9")
	same(t, "the last one", list[63], "x")
}

// P25.2: it ends when it is told so, and goes through the apps anew each time.
func TestAll(t *testing.T) {
	s := set(t, apple("a"), android("b"), apple("c"))
	all := s.All()
	for most := 1; most <= 4; most++ {
		var met []string
		all(func(id string) bool {
			met = append(met, id)
			return len(met) < most
		})
		sameTexts(t, most, met, []string{"a", "b", "c"}[:min(most, 3)]...)
	}
	install(t, s, apple("d"))
	sameTexts(t, "All", ids(s), "a", "b", "c", "d")
}

// bare makes lists without elements nil: these are one.
func bare(m api.Manifest) api.Manifest {
	m.Domains = append([]api.HostPattern(nil), m.Domains...)
	m.Schemes = append([]string(nil), m.Schemes...)
	m.Prints = append([]api.Print(nil), m.Prints...)
	m.Filters = append([]api.Filter(nil), m.Filters...)
	for i, f := range m.Filters {
		m.Filters[i] = api.Filter{Actions: append([]string(nil), f.Actions...), Categories: append([]string(nil), f.Categories...), Schemes: append([]string(nil), f.Schemes...), Hosts: append([]api.FilterHost(nil), f.Hosts...), Paths: append([]api.FilterPath(nil), f.Paths...), AutoVerify: f.AutoVerify}
	}
	return m
}

// full gives a manifest with something in each list.
func full(id string, isApple bool) api.Manifest {
	f, g := claims("https", "x.com", "*.y.com"), opens("app")
	f.Paths = []api.FilterPath{{Kind: api.PathPrefix, Text: "/a"}, {Kind: api.PathExact, Text: "/b"}}
	f.Hosts[1].Port = 443
	m := android(id, f, g)
	m.Prints = []api.Print{{2}, {1}, {2}}
	m.Apple, m.App, m.Domains, m.Schemes = isApple, appX, patterns("b.com", "*.a.com"), []string{"b", "a"}
	return m
}

// P25.2: an app's manifest is the one that was installed.
func TestGet(t *testing.T) {
	for _, isApple := range []bool{true, false} {
		s := set(t, android("y"), full("x", isApple), apple("z"))
		got, err := s.Get("x")
		same(t, "Get", []any{bare(got), err}, []any{bare(full("x", isApple)), nil})
	}
}

// answers is what a Set tells of an app.
type answers struct {
	claims, lets  []bool
	roots, proofs [][]api.Host
}

// P25.3: of an app that there isn't.
func TestNoApp(t *testing.T) {
	s := set(t, apple("x", "a.com"), android("y", claims("https", "a.com")))
	same(t, "Uninstall", s.Uninstall("y"), error(nil))
	u := read(t, "https://a.com/")
	for _, id := range []string{"", "y", "X", "z", "\xff"} {
		same(t, id, []any{s.Claims(id, u.Host), s.Lets(id, u)}, []any{false, false})
		same(t, id, []any{len(s.Roots(id)), len(s.Proofs(id, u.Host))}, []any{0, 0})
	}
	same(t, "x", []any{s.Claims("x", u.Host), s.Lets("x", u)}, []any{true, true})
}

// P25.3: Apple's apps.
func TestApple(t *testing.T) {
	m := apple("x", "b.com", "*.a.com", "*.b.com", "a.com", "c.a.com", "*.c.a.com", "b.com")
	m.Schemes = []string{"app"}
	m.Filters = []api.Filter{claims("https", "f.com")}
	s := set(t, apple("w", "*.com"), m)
	sameHosts(t, "Roots", s.Roots("x"), "b.com", "a.com", "c.a.com")
	for site, proofs := range map[string][]string{
		"b.com": {"b.com"}, "q.b.com": {"b.com"}, "a.com": {"a.com"}, "q.a.com": {"a.com"}, "c.a.com": {"a.com", "c.a.com"},
		"q.c.a.com": {"a.com", "c.a.com"}, "p.q.c.a.com": {"a.com", "c.a.com"},
		"com": nil, "f.com": nil, "xb.com": nil, "b.com.x": nil, "1.2.3.4": nil, "[::1]": nil,
	} {
		h := hostOf(t, site)
		same(t, site, s.Claims("x", h), len(proofs) > 0)
		sameHosts(t, site, s.Proofs("x", h), proofs...)
		for _, scheme := range []string{"https", "http", "app", "HTTPS", ""} {
			same(t, []string{scheme, site}, s.Lets("x", api.URL{Scheme: scheme, Host: h, Port: 7, Path: "/%ff"}), scheme == "https" && len(proofs) > 0)
		}
	}
	// What isn't a name is meant by no domain, whatever its text is.
	for _, kind := range []int{0, api.HostV4, api.HostV6, 9, -1} {
		h := api.Host{Kind: kind, Text: "b.com"}
		same(t, h, []any{s.Claims("x", h), s.Lets("x", api.URL{Scheme: "https", Host: h})}, []any{false, false})
		sameHosts(t, h, s.Proofs("x", h))
	}
	s = set(t, apple("x"))
	sameHosts(t, "Roots of an app without domains", s.Roots("x"))
	same(t, "Claims of an app without domains", s.Claims("x", hostOf(t, "a.com")), false)
}

// P25.3: Android's apps.
func TestAndroid(t *testing.T) {
	ported := claims("http", "*.d.com", "*", "1.2.3.4", "d.com")
	ported.Hosts[3].Port = 8080
	ported.Paths = []api.FilterPath{{Kind: api.PathPrefix, Text: "/p"}}
	both := claims("https", "e.com", "[::1]")
	both.Schemes = append(both.Schemes, "app")
	m := android("x", opens("https", "z.com"), claims("https", "b.com", "*.a.com", "*.b.com"), opens("app", "y.com"), ported, claims("https", "a.com", "b.com", "c.a.com"), both)
	m.Domains = patterns("f.com")
	m.Schemes = []string{"web"}
	s := set(t, m, android("y", claims("https", "*")))
	sameHosts(t, "Roots", s.Roots("x"), "b.com", "a.com", "d.com", "c.a.com", "e.com")
	for site, proofs := range map[string][]string{
		"b.com": {"b.com"}, "q.b.com": {"b.com"}, "a.com": {"a.com"}, "q.a.com": {"a.com"}, "c.a.com": {"a.com", "c.a.com"}, "q.d.com": {"d.com"}, "d.com": {"d.com"}, "e.com": {"e.com"},
		// The pattern of all names claims them, and no root of it proves that.
		"z.com": nil, "y.com": nil, "f.com": nil, "1.2.3.4": nil, "[::1]": nil,
	} {
		h := hostOf(t, site)
		same(t, site, s.Claims("x", h), true)
		sameHosts(t, site, s.Proofs("x", h), proofs...)
	}
	for _, site := range []string{"1.2.3.5", "[::2]"} {
		same(t, site, s.Claims("x", hostOf(t, site)), false)
		sameHosts(t, site, s.Proofs("x", hostOf(t, site)))
	}
	for text, want := range map[string]bool{
		"https://z.com/": false, "https://b.com/": true, "http://b.com/": false, "http://b.com/p": true, "https://q.a.com:9/any": true, "http://q.d.com/p1": true, "http://q.d.com/": false, "http://d.com:8080/p": true,
		"app://y.com/": false, "app://e.com/": true, "https://[::1]/": true, "https://e.com/%ff": true, "http://any.com/%ff": false, "web:x": false, "https://1.2.3.4/": false,
	} {
		same(t, text, s.Lets("x", read(t, text)), want)
	}
	s = set(t, android("x"), android("y", opens("https", "a.com")), android("z", claims("https", "*")))
	for _, id := range []string{"x", "y", "z"} {
		sameHosts(t, "Roots of "+id, s.Roots(id))
		sameHosts(t, "Proofs of "+id, s.Proofs(id, hostOf(t, "a.com")))
		same(t, "Claims of "+id, s.Claims(id, hostOf(t, "a.com")), id == "z")
		same(t, "Lets of "+id, s.Lets(id, read(t, "https://a.com/")), id == "z")
	}
}

// distinct gives each of some hosts once.
func distinct(list []api.Host) []api.Host {
	var others []api.Host
	for _, h := range list {
		if !slices.Contains(others, h) {
			others = append(others, h)
		}
	}
	return others
}

// byWords gives by the chapter's words what is told of an app.
func byWords(m api.Manifest, hosts []api.Host, urls []api.URL) answers {
	var a answers
	claimed := func(h api.Host) bool {
		for _, p := range m.Domains {
			if m.Apple && h.Kind == api.HostName && host.Match(p, h) {
				return true
			}
		}
		for _, f := range m.Filters {
			if !m.Apple && filter.Claims(f, h) {
				return true
			}
		}
		return false
	}
	var roots []api.Host
	for _, p := range m.Domains {
		roots = append(roots, api.Host{Kind: api.HostName, Text: p.Name})
	}
	if !m.Apple {
		roots = nil
		for _, f := range m.Filters {
			roots = append(roots, filter.Roots(f)...)
		}
	}
	a.roots = [][]api.Host{distinct(roots)}
	for _, h := range hosts {
		a.claims = append(a.claims, claimed(h))
		var proofs []api.Host
		for _, p := range m.Domains {
			if m.Apple && h.Kind == api.HostName && host.Match(p, h) {
				proofs = append(proofs, api.Host{Kind: api.HostName, Text: p.Name})
			}
		}
		for _, f := range m.Filters {
			if m.Apple || !filter.Claims(f, h) {
				continue
			}
			for _, root := range filter.Roots(f) {
				for _, x := range f.Hosts {
					if x.Pattern.Name == root.Text && host.Match(x.Pattern, h) {
						proofs = append(proofs, root)
					}
				}
			}
		}
		a.proofs = append(a.proofs, distinct(proofs))
	}
	for _, u := range urls {
		lets := m.Apple && u.Scheme == "https" && claimed(u.Host)
		for _, f := range m.Filters {
			lets = lets || !m.Apple && f.AutoVerify && filter.Match(f, u)
		}
		a.lets = append(a.lets, lets)
	}
	return a
}

// P25.3: of all apps of up to three of some domains, or filters, against the chapter's words.
func TestOfAll(t *testing.T) {
	domains := patterns("a.com", "*.a.com", "b.a.com", "*.b.a.com")
	ported := claims("http", "a.com")
	ported.Hosts[0].Port = 8080
	filters := []api.Filter{opens("https", "a.com"), claims("https", "*.a.com", "b.a.com"), claims("https", "1.2.3.4", "*", "a.com"), ported}
	var hosts []api.Host
	for _, s := range []string{"a.com", "b.a.com", "c.b.a.com", "com", "1.2.3.4", "[::1]"} {
		hosts = append(hosts, hostOf(t, s))
	}
	var urls []api.URL
	for _, s := range []string{"https://a.com/", "http://a.com/", "http://a.com:8080/", "https://b.a.com", "https://1.2.3.4/", "app:x", "https://c.b.a.com:7/x"} {
		urls = append(urls, read(t, s))
	}
	var grow func(m api.Manifest)
	grow = func(m api.Manifest) {
		s := set(t, m)
		got := answers{roots: [][]api.Host{distinct(s.Roots(m.ID))}}
		same(t, "whether each root is there once", len(s.Roots(m.ID)), len(got.roots[0]))
		for _, h := range hosts {
			got.claims = append(got.claims, s.Claims(m.ID, h))
			proofs := s.Proofs(m.ID, h)
			got.proofs = append(got.proofs, distinct(proofs))
			same(t, "whether each proof is there once", len(proofs), len(distinct(proofs)))
		}
		for _, u := range urls {
			got.lets = append(got.lets, s.Lets(m.ID, u))
		}
		same(t, m, got, byWords(m, hosts, urls))
		if len(m.Domains) == 3 || t.Failed() {
			return
		}
		for i := range domains {
			next := m
			next.Domains = append(slices.Clone(m.Domains), domains[i])
			next.Filters = append(slices.Clone(m.Filters), filters[i])
			grow(next)
		}
	}
	for _, isApple := range []bool{true, false} {
		m := android("x")
		m.Apple, m.App = isApple, appX
		grow(m)
	}
}

// P25.4, and the chapter's example.
func TestCustom(t *testing.T) {
	web := custom("w", "b")
	web.Filters = []api.Filter{opens("app")}
	sited := opens("app", "x.com")
	closed := opens("app")
	closed.Actions = []string{"x"}
	droid := android("s", opens("b"), sited)
	droid.Schemes = []string{"c"}
	s := set(t, custom("one", "app"), web, android("two", opens("https", "x.com"), opens("app")), droid, android("closed", closed), custom("three", "b", "app", "c"), custom("none"), android("web", opens("https"), claims("http", "*")))
	for text, want := range map[string][]string{
		"app:x":                 {"one", "two", "three"},
		"APP:x":                 {"one", "two", "three"},
		"app://x.com/%ff":       {"one", "two", "s", "three"},
		"app://y.com/":          {"one", "two", "three"},
		"b:":                    {"w", "s", "three"},
		"c:x":                   {"three"},
		"d:x":                   nil,
		"ap:x":                  nil,
		"https://x.com/":        nil,
		"http://x.com/":         nil,
		"httpsx://x.com/":       nil,
		"app+b:x":               nil,
		"app://x.com:80?q#frag": {"one", "two", "s", "three"},
	} {
		sameTexts(t, text, s.Custom(read(t, text)), want...)
	}
	sameTexts(t, "a URL of no scheme", s.Custom(api.URL{}))
	sameTexts(t, "a set without apps", apps.New().Custom(read(t, "app:x")))
	same(t, "Uninstall", s.Uninstall("one"), error(nil))
	install(t, s, android("one", opens("app")))
	sameTexts(t, "app:x", s.Custom(read(t, "app:x")), "two", "three", "one")
}

// spare gives a list with room behind it, and all of its room.
func spare[T any](more T, list ...T) (short, whole []T) {
	whole = append(slices.Clone(list), more, more)
	return whole[:len(list)], whole
}

// roomy gives a manifest whose lists have room behind them, and tells what is in all of that, and how to write it over.
func roomy(id string, isApple bool) (m api.Manifest, whole func() []any, over func()) {
	m = full(id, isApple)
	f := &m.Filters[0]
	var domains []api.HostPattern
	var schemes, actions, categories, webs []string
	var prints []api.Print
	var hosts []api.FilterHost
	var paths []api.FilterPath
	var filters []api.Filter
	f.Actions, actions = spare("more", f.Actions...)
	f.Categories, categories = spare("more", f.Categories...)
	f.Schemes, webs = spare("more", f.Schemes...)
	f.Hosts, hosts = spare(api.FilterHost{Port: 7}, f.Hosts...)
	f.Paths, paths = spare(api.FilterPath{Kind: 7}, f.Paths...)
	m.Domains, domains = spare(api.HostPattern{Name: "more"}, m.Domains...)
	m.Schemes, schemes = spare("more", m.Schemes...)
	m.Prints, prints = spare(api.Print{7}, m.Prints...)
	m.Filters, filters = spare(api.Filter{}, m.Filters...)
	whole = func() []any {
		return []any{slices.Clone(domains), slices.Clone(schemes), slices.Clone(prints), slices.Clone(actions), slices.Clone(categories), slices.Clone(webs), slices.Clone(hosts), slices.Clone(paths), bare(api.Manifest{Filters: filters}).Filters}
	}
	over = func() {
		clear(domains)
		clear(schemes)
		clear(prints)
		clear(actions)
		clear(categories)
		clear(webs)
		clear(hosts)
		clear(paths)
		clear(filters)
	}
	return m, whole, over
}

// P25.5: what is handed in stays, its spare room, too, and may be written over behind the call.
func TestHandedInStays(t *testing.T) {
	for _, isApple := range []bool{true, false} {
		m, whole, over := roomy("x", isApple)
		ahead := whole()
		s := apps.New()
		same(t, "Check", apps.Check(m), error(nil))
		install(t, s, m)
		same(t, "Install again", tells(s.Install(m)), told{kind: api.ErrThere})
		same(t, "all that was handed in", whole(), ahead)
		roots := s.Roots("x")
		over()
		got, err := s.Get("x")
		same(t, "Get", []any{bare(got), err}, []any{bare(full("x", isApple)), nil})
		same(t, "Roots", s.Roots("x"), roots)
	}
}

func share(a, b string) bool {
	return len(a) > 0 && len(b) > 0 && unsafe.StringData(a) == unsafe.StringData(b)
}

// textsOf gives all texts of a manifest.
func textsOf(m api.Manifest) []string {
	list := append([]string{m.ID, m.App.Team, m.App.Bundle, m.Package}, m.Schemes...)
	for _, p := range m.Domains {
		list = append(list, p.Name)
	}
	for _, f := range m.Filters {
		list = slices.Concat(list, f.Actions, f.Categories, f.Schemes)
		for _, x := range f.Hosts {
			list = append(list, x.Pattern.Name)
		}
		for _, x := range f.Paths {
			list = append(list, x.Text)
		}
	}
	return list
}

// emptied writes over all that an answer has, its spare room, too.
func emptied(m api.Manifest) {
	for _, f := range m.Filters {
		clear(f.Actions[:cap(f.Actions)])
		clear(f.Categories[:cap(f.Categories)])
		clear(f.Schemes[:cap(f.Schemes)])
		clear(f.Hosts[:cap(f.Hosts)])
		clear(f.Paths[:cap(f.Paths)])
	}
	clear(m.Domains[:cap(m.Domains)])
	clear(m.Schemes[:cap(m.Schemes)])
	clear(m.Prints[:cap(m.Prints)])
	clear(m.Filters[:cap(m.Filters)])
}

// P25.5: what is answered may be written over, its spare room, too.
func TestAnswersAreNew(t *testing.T) {
	for _, isApple := range []bool{true, false} {
		m := full("x", isApple)
		s := set(t, m)
		got, _ := s.Get("x")
		again, _ := s.Get("x")
		for _, other := range []api.Manifest{m, again} {
			for i, s := range textsOf(got) {
				same(t, "whether a text is another manifest's: "+s, share(s, textsOf(other)[i]), false)
			}
		}
		for i, f := range got.Filters {
			_ = append(f.Actions, "z")
			_ = append(f.Categories, "z")
			_ = append(f.Schemes, "z")
			same(t, "behind filter "+strconv.Itoa(i), bare(got), bare(again))
		}
		emptied(got)
		same(t, "the other answer", bare(again), bare(m))
		got, _ = s.Get("x")
		same(t, "the next answer", bare(got), bare(m))

		h := hostOf(t, "q.y.com")
		if isApple {
			h = hostOf(t, "q.a.com")
		}
		for _, ask := range []func() []api.Host{func() []api.Host { return s.Roots("x") }, func() []api.Host { return s.Proofs("x", h) }} {
			one, two := ask(), ask()
			want := slices.Clone(one)
			same(t, "whether there are some", len(want) > 0, true)
			same(t, "whether both have one text", share(one[0].Text, two[0].Text), false)
			clear(one[:cap(one)])
			same(t, "the other answer", two, want)
			same(t, "the next answer", ask(), want)
		}
		got, _ = s.Get("x")
		same(t, "the manifest behind that", bare(got), bare(m))
	}
	s := set(t, custom("a", "app"), custom("b", "app"))
	u := read(t, "app:x")
	one := s.Custom(u)
	same(t, "whether texts are another answer's", []bool{share(one[0], s.Custom(u)[0]), share(ids(s)[0], ids(s)[0])}, make([]bool, 2))
	clear(one[:cap(one)])
	sameTexts(t, "Custom", s.Custom(u), "a", "b")
	sameTexts(t, "All", ids(s), "a", "b")
	s.Uninstall("z").(*api.Fault).At = 9
	same(t, "Uninstall", tells(s.Uninstall("z")), told{kind: api.ErrName})
	s.Install(custom("a")).(*api.Fault).At = 9
	same(t, "Install", tells(s.Install(custom("a"))), told{kind: api.ErrThere})
}

// What is done to one set isn't seen in another.
func TestByItself(t *testing.T) {
	one, two := set(t, apple("a", "x.com")), set(t, android("b"))
	same(t, "Uninstall", tells(two.Uninstall("a")), told{kind: api.ErrName})
	install(t, two, android("a"))
	same(t, "Uninstall", one.Uninstall("a"), error(nil))
	sameTexts(t, "All of the first one", ids(one))
	sameTexts(t, "All of the second one", ids(two), "b", "a")
	sameTexts(t, "All of a new one", ids(apps.New()))
}

// P1 and P2: all calls end, none panics, and a second run answers what the first one did.
func TestAnyArguments(t *testing.T) {
	texts := []string{"", "\xff", "*", "x", "x.com", "https", strings.Repeat("a", 1<<16)}
	manifests := []api.Manifest{{}, {Apple: true}, apple("x", "x.com", "*.x"), custom("y", "x"), android("x.com", claims("https", "*", "x.com", "[::1]"), opens("x")), full("https", true), full("*", false)}
	hosts := []api.Host{{}}
	urls := []api.URL{{}, read(t, "https://x.com/"), read(t, "x:y")}
	for i, s := range texts {
		other := texts[(i+1)%len(texts)]
		manifests = append(manifests, api.Manifest{ID: s, Apple: i%2 == 0, App: api.AppID{Team: other, Bundle: s}, Domains: patterns(s, other), Schemes: []string{s, other}, Package: other, Prints: make([]api.Print, i), Filters: []api.Filter{opens(s, other), claims(other, s)}})
		hosts = append(hosts, api.Host{Kind: api.HostName, Text: s}, api.Host{Kind: -1 << 62, Text: s}, api.Host{Kind: api.HostV6, Text: s})
		urls = append(urls, api.URL{Scheme: s, Host: hosts[1+3*i], Port: -1 << 63, Path: other}, api.URL{Scheme: "https", Host: hosts[3*i], Path: s}, api.URL{Scheme: "x", Path: s, HasQuery: true, Query: other, Port: 1 << 62})
	}
	run := func() []any {
		var all []any
		keep := func(answers ...any) { all = append(all, answers...) }
		s := apps.New()
		for _, m := range manifests {
			keep(tells(apps.Check(m)), tells(s.Install(m)), s.Len(), ids(s))
		}
		for _, id := range slices.Concat(texts, []string{"y"}) {
			got, err := s.Get(id)
			keep(got, tells(err), s.Roots(id))
			for _, h := range hosts {
				keep(s.Claims(id, h), s.Proofs(id, h))
			}
			for _, u := range urls {
				keep(s.Lets(id, u), s.Custom(u))
			}
			keep(tells(s.Uninstall(id)), s.Len())
		}
		return all
	}
	if !reflect.DeepEqual(run(), run()) {
		t.Error("a second run answers something else")
	}
}
