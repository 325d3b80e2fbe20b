package dispatch_test

import (
	"errors"
	"reflect"
	"slices"
	"strings"
	"testing"

	"waybill/api"
	"waybill/apps"
	"waybill/chain"
	"waybill/dispatch"
	"waybill/host"
	"waybill/ident"
	"waybill/pick"
	"waybill/url"
	"waybill/wire"
)

const team = "ABCDE12345"

func same(t *testing.T, what any, got, want any) {
	t.Helper()
	if !reflect.DeepEqual(got, want) {
		t.Errorf("%.300v: got %+v, want %+v", what, got, want)
	}
}

// told is an error as the chapters tell it: kind 0 is none.
type told struct {
	kind  api.Errno
	at    int
	inner error
}

// tells gives the error that an error is; of one that isn't a fault a kind below 0.
func tells(err error) told {
	if err == nil {
		return told{}
	}
	f, ok := err.(*api.Fault)
	if !ok || f == nil || !errors.Is(err, f.Kind) {
		return told{kind: -1}
	}
	return told{f.Kind, f.At, f.Inner}
}

// name gives the host of a name.
func name(text string) api.Host { return api.Host{Kind: api.HostName, Text: text} }

// pattern gives the pattern that a text is, *. meaning a wild one.
func pattern(s string) api.HostPattern {
	rest, wild := strings.CutPrefix(s, "*.")
	return api.HostPattern{Wild: wild, Name: rest}
}

// apple gives an app of Apple's with domains.
func apple(id string, domains ...string) api.Manifest {
	m := api.Manifest{ID: id, Apple: true, App: api.AppID{Team: team, Bundle: id}}
	for _, s := range domains {
		m.Domains = append(m.Domains, pattern(s))
	}
	return m
}

// filterOf gives a filter that opens URLs of some schemes at hosts of any port.
func filterOf(schemes []string, hosts ...string) api.Filter {
	f := api.Filter{Actions: []string{api.ActionView}, Categories: []string{api.CategoryBrowsable, api.CategoryDefault}, Schemes: schemes}
	for _, s := range hosts {
		f.Hosts = append(f.Hosts, api.FilterHost{Pattern: pattern(s), Port: -1})
	}
	return f
}

// android gives an app of Android's that claims hosts.
func android(id string, hosts ...string) api.Manifest {
	m := api.Manifest{ID: id, Package: "com." + id, Prints: []api.Print{{1}}}
	if len(hosts) > 0 {
		f := filterOf([]string{"https", "http"}, hosts...)
		f.AutoVerify = true
		m.Filters = []api.Filter{f}
	}
	return m
}

// speaks is a document of Apple's that tells some elder paths of the app of a manifest's name.
func speaks(id string, paths ...string) string {
	return `{"applinks":{"details":[{"appID":"` + team + "." + id + `","paths":["` + strings.Join(paths, `","`) + `"]}]}}`
}

// grants is a statement of Android's that speaks for the app of a manifest's name.
func grants(id string) string { return granted("com."+id, api.HandleURLs, api.Print{1}) }

func granted(pkg, relation string, p api.Print) string {
	return `{"relation":["` + relation + `"],"target":{"namespace":"android_app","package_name":"` + pkg + `","sha256_cert_fingerprints":["` + ident.PrintText(p) + `"]}}`
}

// in is a statement that includes a URL, list a document of statements.
func in(site string) string            { return `{"include":"` + site + `"}` }
func list(statements ...string) string { return "[" + strings.Join(statements, ",") + "]" }

// right is a response to which there is nothing to say but of its body.
func right(id uint64, cache, body string) api.Response {
	return api.Response{ID: id, Status: 200, Type: "application/json", Cache: cache, Body: []byte(body)}
}

func install(d *dispatch.Dispatcher, m api.Manifest) api.Outcome {
	return d.Do(api.Event{Kind: api.EvInstall, Manifest: m})
}

func uninstall(d *dispatch.Dispatcher, id string) api.Outcome {
	return d.Do(api.Event{Kind: api.EvUninstall, ID: id})
}

func toggle(d *dispatch.Dispatcher, id, h string, on bool) api.Outcome {
	return d.Do(api.Event{Kind: api.EvToggle, ID: id, Host: h, On: on})
}

func tick(d *dispatch.Dispatcher, n uint64) api.Outcome {
	return d.Do(api.Event{Kind: api.EvTick, N: n})
}

func deliver(d *dispatch.Dispatcher, r api.Response) api.Outcome {
	return d.Do(api.Event{Kind: api.EvDeliver, Response: r})
}

func open(d *dispatch.Dispatcher, s string) api.Answer {
	return d.Do(api.Event{Kind: api.EvOpen, URL: s}).Answer
}

// opens asks in words for what becomes of a URL.
func opens(t *testing.T, d *dispatch.Dispatcher, s, want string) {
	t.Helper()
	same(t, s, pick.Words(open(d, s)), want)
}

// with gives a dispatcher with some apps.
func with(t *testing.T, list ...api.Manifest) *dispatch.Dispatcher {
	t.Helper()
	d := dispatch.New()
	for _, m := range list {
		same(t, "Install of "+m.ID, install(d, m).Err, error(nil))
	}
	return d
}

// comes delivers a document to a fetch.
func comes(t *testing.T, d *dispatch.Dispatcher, id uint64, cache, body string) []api.Request {
	t.Helper()
	out := deliver(d, right(id, cache, body))
	same(t, "Deliver", out.Err, error(nil))
	return out.Requests
}

// asked is a request for the document of a host that an app's check needs.
func asked(id uint64, m api.Manifest, h string) api.Request {
	r := api.Request{ID: id, App: m.ID, Apple: m.Apple, Host: name(h), URL: wire.AppleURL(name(h))}
	if !m.Apple {
		r.URL = chain.Root(name(h))
	}
	return r
}

// names gives the names of all apps.
func names(d *dispatch.Dispatcher) []string {
	var list []string
	for id := range d.Apps() {
		list = append(list, id)
	}
	return list
}

// checks gives all checks.
func checks(d *dispatch.Dispatcher) []api.Check {
	var list []api.Check
	for c := range d.Checks() {
		list = append(list, c)
	}
	return list
}

// requests are some, or none: a list without elements is none.
func requests(list []api.Request) []api.Request {
	return append([]api.Request(nil), list...)
}

// standing is all that can be asked for of some apps, hosts and URLs without letting anything happen.
type standing struct {
	Now     uint64
	Apps    []string
	Checks  []api.Check
	Waiting int
	Off     []bool
	States  []int
	Words   [][]string
}

func stands(d *dispatch.Dispatcher) standing {
	s := standing{Now: d.Now(), Apps: names(d), Checks: checks(d), Waiting: d.Waiting()}
	for _, id := range []string{"", "a", "b", "c", "d", "e"} {
		for _, h := range []string{"", "x.com", "y.com", "q.y.com", "X.com", "1.2.3.4"} {
			s.Off = append(s.Off, d.Off(id, h))
			s.States = append(s.States, d.State(id, h))
		}
	}
	for _, u := range []string{"https://x.com/a", "http://q.y.com/no", "https://y.com/", "app:x", "https://u@x.com", "https://1.2.3.4/"} {
		s.Words = append(s.Words, d.Explain(u))
	}
	return s
}

// refuses asks for an event's error, and that nothing happens.
func refuses(t *testing.T, d *dispatch.Dispatcher, e api.Event, want told) {
	t.Helper()
	ahead := stands(d)
	out := d.Do(e)
	same(t, e, tells(out.Err), want)
	same(t, e, out.Answer, api.Answer{})
	same(t, e, len(out.Requests), 0)
	same(t, e, stands(d), ahead)
}

// P29.1: nothing has happened.
func TestNew(t *testing.T) {
	d := dispatch.New()
	same(t, "Now", d.Now(), uint64(0))
	same(t, "Waiting", d.Waiting(), 0)
	same(t, "Apps", len(names(d)), 0)
	same(t, "Checks", len(checks(d)), 0)
	same(t, "State", d.State("", ""), api.SiteNone)
	same(t, "Off", d.Off("", ""), false)
	list, err := d.Candidates("https://x.com/")
	same(t, "Candidates", []any{len(list), err}, []any{0, nil})
	same(t, "Explain", d.Explain("https://x.com/"), []string{"browser:nobody"})
	same(t, "Explain of another scheme", d.Explain("app:x"), []string{"reject:nobody"})
	opens(t, d, "https://x.com/", "browser:nobody")
}

// P29.1: an app's checks are needed, and their fetches asked for at once.
func TestInstall(t *testing.T) {
	d := dispatch.New()
	a := apple("a", "x.com", "*.y.com", "y.com", "*.x.com", "z")
	out := install(d, a)
	same(t, "a", out, api.Outcome{Requests: []api.Request{asked(1, a, "x.com"), asked(2, a, "y.com"), asked(3, a, "z")}})
	same(t, "Waiting", d.Waiting(), 3)
	tick(d, 7)
	b := android("b", "*.y.com", "x.com", "1.2.3.4")
	out = install(d, b)
	same(t, "b", out, api.Outcome{Requests: []api.Request{asked(4, b, "y.com"), asked(5, b, "x.com")}})
	same(t, "c", requests(install(d, apple("c")).Requests), []api.Request(nil))
	same(t, "d", requests(install(d, android("d")).Requests), []api.Request(nil))
	same(t, "Apps", names(d), []string{"a", "b", "c", "d"})
	same(t, "Checks", checks(d), []api.Check{
		{App: "a", Apple: true, Host: name("x.com"), State: api.SitePending},
		{App: "a", Apple: true, Host: name("y.com"), State: api.SitePending},
		{App: "a", Apple: true, Host: name("z"), State: api.SitePending},
		{App: "b", Host: name("y.com"), State: api.SitePending, Due: 7},
		{App: "b", Host: name("x.com"), State: api.SitePending, Due: 7},
	})
	same(t, "Waiting", d.Waiting(), 5)
}

// P29.1: the apps' errors of Install; nothing else happens then.
func TestInstallErrors(t *testing.T) {
	d := with(t, apple("a", "x.com"), android("b", "x.com"))
	wrong := apple("c", "x.com", "X.com")
	twice := apple("a", "x.com", "y.com")
	unnamed := android("", "x.com")
	unfit := android("c", "x.com")
	unfit.Filters = append(unfit.Filters, api.Filter{})
	kinds := []api.Errno{api.ErrHost, api.ErrThere, api.ErrThere, api.ErrName, api.ErrKind}
	for i, m := range []api.Manifest{wrong, twice, android("a", "y.com"), unnamed, unfit} {
		s := apps.New()
		s.Install(apple("a"))
		want := tells(s.Install(m))
		same(t, m, want.kind, kinds[i])
		refuses(t, d, api.Event{Kind: api.EvInstall, Manifest: m}, want)
	}
	d = dispatch.New()
	for n := range api.MaxApps {
		same(t, n, install(d, apple(strings.Repeat("a", n+1), "x.com")).Err, error(nil))
	}
	refuses(t, d, api.Event{Kind: api.EvInstall, Manifest: apple("b", "x.com")}, told{kind: api.ErrMany})
	refuses(t, d, api.Event{Kind: api.EvInstall, Manifest: apple("a", "y.com")}, told{kind: api.ErrThere})
}

// P29.1: with an app its checks, its fetches and its switches are gone, and no others.
func TestUninstall(t *testing.T) {
	a, b := apple("a", "x.com", "y.com"), android("b", "x.com")
	d := with(t, a, b)
	comes(t, d, 1, "", speaks("a", "*"))
	for _, id := range []string{"a", "b"} {
		for _, h := range []string{"", "x.com", "q.com"} {
			same(t, h, toggle(d, id, h, false).Err, error(nil))
		}
	}
	refuses(t, d, api.Event{Kind: api.EvUninstall, ID: "c"}, told{kind: api.ErrName})
	refuses(t, d, api.Event{Kind: api.EvUninstall}, told{kind: api.ErrName})
	refuses(t, d, api.Event{Kind: api.EvUninstall, ID: "A"}, told{kind: api.ErrName})
	same(t, "Waiting", d.Waiting(), 2)
	same(t, "Uninstall", uninstall(d, "a"), api.Outcome{})
	same(t, "Waiting", d.Waiting(), 1)
	same(t, "Apps", names(d), []string{"b"})
	same(t, "Checks", checks(d), []api.Check{{App: "b", Host: name("x.com"), State: api.SitePending}})
	same(t, "State", d.State("a", "x.com"), api.SiteNone)
	for _, h := range []string{"", "x.com", "q.com"} {
		same(t, h, []bool{d.Off("a", h), d.Off("b", h)}, []bool{false, true})
	}
	refuses(t, d, api.Event{Kind: api.EvDeliver, Response: right(2, "", speaks("a", "*"))}, told{kind: api.ErrName})
	refuses(t, d, api.Event{Kind: api.EvUninstall, ID: "a"}, told{kind: api.ErrName})
	// It is installed again, behind the other one, and nothing is known of it.
	same(t, "Install", install(d, a), api.Outcome{Requests: []api.Request{asked(4, a, "x.com"), asked(5, a, "y.com")}})
	same(t, "Apps", names(d), []string{"b", "a"})
	same(t, "Off", d.Off("a", "x.com"), false)
	opens(t, d, "https://x.com/", "browser:unknown")
	comes(t, d, 4, "", speaks("a", "*"))
	opens(t, d, "https://x.com/", "open:one a")
	// As an app of Android's it is checked by documents of Android's.
	uninstall(d, "a")
	a = android("a", "x.com")
	same(t, "Install", install(d, a), api.Outcome{Requests: []api.Request{asked(6, a, "x.com")}})
	opens(t, d, "https://x.com/", "browser:unknown")
	same(t, "a chain that goes on", len(comes(t, d, 6, "", list(in("https://y/")))), 1)
	uninstall(d, "a")
	same(t, "Install", install(d, a), api.Outcome{Requests: []api.Request{asked(8, a, "x.com")}})
}

// P29.1: the errors of EvToggle, in their order.
func TestToggleErrors(t *testing.T) {
	d := with(t, apple("a", "x.com"))
	toggle(d, "a", "y.com", false)
	for _, on := range []bool{true, false} {
		for _, id := range []string{"", "b", "A", "a "} {
			for _, h := range []string{"", "x.com", "y.com", "[", "1.2.3.4"} {
				refuses(t, d, api.Event{Kind: api.EvToggle, ID: id, Host: h, On: on}, told{kind: api.ErrName})
			}
		}
		for _, h := range []string{"[", "[::1", "%", "x.com%2", "a..b", ".", "x_y", "1.2.3.400", "\xff", "*.x.com", "*"} {
			_, inner := host.Canon(h)
			same(t, h, inner != nil, true)
			refuses(t, d, api.Event{Kind: api.EvToggle, ID: "a", Host: h, On: on}, told{kind: api.ErrHost, inner: inner})
		}
		for _, h := range []string{"1.2.3.4", "[::1]", "0x7f.1", "127.1."} {
			refuses(t, d, api.Event{Kind: api.EvToggle, ID: "a", Host: h, On: on}, told{kind: api.ErrHost})
		}
	}
}

// P29.1: switches for hosts, and for all hosts, are by themselves.
func TestToggle(t *testing.T) {
	d := with(t, apple("a", "x.com"), apple("b", "x.com"))
	type step struct {
		id, host string
		on       bool
		off      string // for which of these a, and behind a bar b, is off then
	}
	for i, s := range []step{
		{"a", "X.com.", false, "x|"},
		{"a", "%58.com", false, "x|"},
		{"b", "y.com", false, "x|y"},
		{"a", "y.com", true, "x|y"},
		{"b", "x.com", true, "x|y"},
		{"a", "q.x.com", false, "xq|y"},
		{"a", "x.COM", true, "q|y"},
		{"a", "", false, "-xyq|y"},
		{"a", "", false, "-xyq|y"},
		// The switch for all hosts stays.
		{"a", "q.x.com", true, "-xyq|y"},
		{"a", "x.com", false, "-xyq|y"},
		{"b", "", true, "-xyq|"},
		{"a", "", true, "|"},
		{"a", "", true, "|"},
		{"a", "x.com", true, "|"},
		{"b", "x.com", false, "|x"},
		{"b", "q.x.com", false, "|xq"},
		{"a", "", true, "|xq"},
		{"b", "", true, "|"},
	} {
		same(t, i, toggle(d, s.id, s.host, s.on), api.Outcome{})
		got := ""
		for _, id := range []string{"a", "b"} {
			for _, h := range []struct{ text, word string }{{"", "-"}, {"x.com", "x"}, {"y.com", "y"}, {"q.x.com", "q"}} {
				if d.Off(id, h.text) {
					got += h.word
				}
			}
			got += "|"
		}
		same(t, i, got, s.off+"|")
	}
}

// P29.1: Off is asked for the text as it is.
func TestOff(t *testing.T) {
	d := with(t, apple("a", "x.com"))
	toggle(d, "a", "X.com", false)
	for _, h := range []string{"", "X.com", "x.com.", "q.x.com", "com", "x.com ", "%78.com", "\xff"} {
		same(t, h, d.Off("a", h), false)
	}
	same(t, "x.com", d.Off("a", "x.com"), true)
	toggle(d, "a", "", false)
	for _, h := range []string{"", "X.com", "1.2.3.4", "[::1]", "\xff"} {
		same(t, h, []bool{d.Off("a", h), d.Off("b", h), d.Off("", h)}, []bool{true, false, false})
	}
}

// P29.1: ticks go by, at most 2^32 of them.
func TestTick(t *testing.T) {
	d := dispatch.New()
	now := uint64(0)
	for _, c := range []struct{ n, most uint64 }{{0, 0}, {1, 1}, {59, 59}, {1 << 32, 1 << 32}, {1<<32 - 1, 1<<32 - 1}, {1<<32 + 1, 1 << 32}, {1 << 63, 1 << 32}, {1<<64 - 1, 1 << 32}} {
		now += c.most
		same(t, c.n, tick(d, c.n), api.Outcome{})
		same(t, c.n, d.Now(), now)
	}
}

// P29.1: a fetch that has waited for 120 ticks has failed.
func TestTickLate(t *testing.T) {
	a, b := apple("a", "x.com", "y.com"), android("b", "x.com")
	d := with(t, a)
	tick(d, 10)
	install(d, b)
	same(t, "at 119", tick(d, 109), api.Outcome{})
	same(t, "Waiting", d.Waiting(), 3)
	comes(t, d, 2, "", speaks("a", "*"))
	same(t, "at 120", tick(d, 1), api.Outcome{})
	same(t, "Waiting", d.Waiting(), 1)
	same(t, "Checks", checks(d), []api.Check{
		{App: "a", Apple: true, Host: name("x.com"), State: api.SiteFailed, Failures: 1, Due: 180},
		{App: "a", Apple: true, Host: name("y.com"), State: api.SiteGood, Due: 119 + api.PlainLife/2, Until: 119 + api.PlainLife},
		{App: "b", Host: name("x.com"), State: api.SitePending, Due: 10},
	})
	refuses(t, d, api.Event{Kind: api.EvDeliver, Response: right(1, "", speaks("a", "*"))}, told{kind: api.ErrName})
	same(t, "at 1000", tick(d, 880), api.Outcome{Requests: []api.Request{asked(4, a, "x.com")}})
	same(t, "Failures", checks(d)[2], api.Check{App: "b", Host: name("x.com"), State: api.SiteFailed, Failures: 1, Due: 1060})
	// Those of failures are asked for in the order of the checks, each when it is due.
	same(t, "at 1060", tick(d, 60), api.Outcome{Requests: []api.Request{asked(5, b, "x.com")}})
	same(t, "at 1120", tick(d, 60), api.Outcome{})
	same(t, "Failures", checks(d)[0], api.Check{App: "a", Apple: true, Host: name("x.com"), State: api.SiteFailed, Failures: 2, Due: 1240})
	same(t, "at 1300", tick(d, 180), api.Outcome{Requests: []api.Request{asked(6, a, "x.com")}})
	same(t, "at 1420", tick(d, 120), api.Outcome{Requests: []api.Request{asked(7, b, "x.com")}})
	same(t, "Failures", checks(d)[0], api.Check{App: "a", Apple: true, Host: name("x.com"), State: api.SiteFailed, Failures: 3, Due: 1660})
}

// P29.1: a document that is included, and comes too late, tells nothing; the chain goes on at the same tick.
func TestTickLateChain(t *testing.T) {
	b := android("b", "x.com")
	d := with(t, b)
	next := asked(2, b, "x.com")
	next.URL = "https://y/"
	same(t, "the first one included", comes(t, d, 1, "no-store", list(in("https://y/"), in("https://z/"), grants("b"))), []api.Request{next})
	same(t, "ahead of that", tick(d, 119), api.Outcome{})
	next.ID, next.URL = 3, "https://z/"
	same(t, "the next one", tick(d, 1), api.Outcome{Requests: []api.Request{next}})
	same(t, "State", d.State("b", "x.com"), api.SitePending)
	opens(t, d, "https://x.com/", "browser:unknown")
	same(t, "its end", tick(d, 200), api.Outcome{})
	same(t, "Checks", checks(d), []api.Check{{App: "b", Host: name("x.com"), State: api.SiteGood, Due: 470, Until: 620}})
	opens(t, d, "https://x.com/", "open:one b")
}

// P29.1: what came is judged, and taken by the check that asked for it.
func TestDeliver(t *testing.T) {
	const cache = "max-age=1000"
	answers := map[bool]string{true: speaks("a", "*"), false: list(grants("a"))}
	for _, isApple := range []bool{true, false} {
		m := apple("a", "x.com", "y.com")
		if !isApple {
			m = android("a", "x.com", "y.com")
		}
		good := right(2, cache, answers[isApple])
		long := good
		long.Body = append(slices.Clone(good.Body), []byte(strings.Repeat(" ", api.MaxLinks))...)
		for i, c := range []struct {
			change func(r *api.Response)
			good   bool
		}{
			{func(r *api.Response) {}, true},
			{func(r *api.Response) { r.Type = "application/json; charset=utf-8" }, true},
			{func(r *api.Response) { r.Timeout = true }, false},
			{func(r *api.Response) { r.Redirect = true }, false},
			{func(r *api.Response) { r.Status = 404 }, false},
			{func(r *api.Response) { r.Status = 301 }, false},
			{func(r *api.Response) { r.Status = 0 }, false},
			{func(r *api.Response) { r.Type = "text/html" }, false},
			{func(r *api.Response) { r.Type = "" }, isApple},
			{func(r *api.Response) { r.Body = long.Body }, false},
			{func(r *api.Response) { r.Body = nil }, false},
			{func(r *api.Response) { r.Body = []byte("?") }, false},
			{func(r *api.Response) { r.Body = []byte(answers[!isApple]) }, false},
		} {
			d := with(t, m)
			tick(d, 10)
			r := good
			c.change(&r)
			same(t, i, deliver(d, r), api.Outcome{})
			want := api.Check{App: "a", Apple: isApple, Host: name("y.com"), State: api.SiteFailed, Failures: 1, Due: 70}
			if c.good {
				want = api.Check{App: "a", Apple: isApple, Host: name("y.com"), State: api.SiteGood, Due: 510, Until: 1010}
			}
			first := api.Check{App: "a", Apple: isApple, Host: name("x.com"), State: api.SitePending}
			same(t, i, checks(d), []api.Check{first, want})
			same(t, i, d.Waiting(), 1)
			same(t, i, d.State("a", "y.com"), want.State)
		}
	}
}

// P29.1: a response to a fetch that doesn't wait, and one that came already.
func TestDeliverErrors(t *testing.T) {
	d := with(t, apple("a", "x.com"))
	for _, id := range []uint64{0, 2, 1 << 63, 1<<64 - 1} {
		refuses(t, d, api.Event{Kind: api.EvDeliver, Response: right(id, "", speaks("a", "*"))}, told{kind: api.ErrName})
	}
	comes(t, d, 1, "", speaks("a", "*"))
	refuses(t, d, api.Event{Kind: api.EvDeliver, Response: right(1, "", "?")}, told{kind: api.ErrName})
	opens(t, d, "https://x.com/", "open:one a")
}

// P29.1: what a document includes is asked for at once; of its line the root's cache counts.
func TestDeliverChain(t *testing.T) {
	b := android("b", "x.com")
	d := with(t, b)
	tick(d, 5)
	next := asked(2, b, "x.com")
	for i, site := range []string{"https://h/0", "https://h/1", "https://h/2"} {
		next.ID, next.URL = uint64(i+2), site
		bodies := []string{list(in("https://h/0"), in("https://h/1"), in("https://x.com/.well-known/assetlinks.json")), list(grants("b"), in("https://h/2"), in("https://h/1")), "?"}
		caches := []string{"max-age=400", "max-age=5000", "no-store"}
		same(t, site, comes(t, d, uint64(i+1), caches[i], bodies[i]), []api.Request{next})
		same(t, site, d.Waiting(), 1)
		opens(t, d, "https://x.com/", "browser:unknown")
		tick(d, 5)
	}
	same(t, "the last one", requests(comes(t, d, 4, "", list())), []api.Request(nil))
	same(t, "Checks", checks(d), []api.Check{{App: "b", Host: name("x.com"), State: api.SiteGood, Due: 220, Until: 420}})
	opens(t, d, "https://x.com/", "open:one b")
}

// P29.1: a document that leads to an eleventh inclusion verifies nothing.
func TestDeliverMany(t *testing.T) {
	for _, most := range []int{10, 11} {
		d := with(t, android("b", "x.com"))
		statements := []string{grants("b")}
		for n := range most {
			statements = append(statements, in("https://h/"+strings.Repeat("a", n)))
		}
		comes(t, d, 1, "", list(statements...))
		for id := uint64(2); d.Waiting() > 0 && id < 20; id++ {
			comes(t, d, id, "", "[]")
		}
		want := map[int]string{10: "open:one b", 11: "browser:unknown"}[most]
		opens(t, d, "https://x.com/", want)
	}
}

// P29.1: no kind of event.
func TestNoKind(t *testing.T) {
	d := with(t, apple("a", "x.com"))
	for _, kind := range []int{0, -1, 7, 1 << 40, -1 << 63} {
		e := api.Event{Kind: kind, Manifest: apple("b", "x.com"), ID: "a", Host: "x.com", N: 500, Response: right(1, "", speaks("a", "*")), URL: "https://x.com/"}
		refuses(t, d, e, told{kind: api.ErrKind})
	}
}

// P29.1: an event has nothing to do with what is told of other kinds.
func TestKindAlone(t *testing.T) {
	full := api.Event{Manifest: apple("b", "x.com"), ID: "a", Host: "x.com", N: 500, Response: right(1, "", speaks("a", "*")), URL: "https://x.com/"}
	for kind, want := range map[int]string{
		api.EvInstall:   "0 a,b 2 false browser:unknown",
		api.EvUninstall: "0  0 false browser:nobody",
		api.EvToggle:    "0 a 1 true browser:unknown",
		api.EvTick:      "500 a 0 false browser:unknown",
		api.EvDeliver:   "0 a 0 false open:one a",
		api.EvOpen:      "0 a 1 false browser:unknown",
	} {
		d := with(t, apple("a", "x.com"))
		full.Kind = kind
		out := d.Do(full)
		same(t, kind, out.Err, error(nil))
		same(t, kind, out.Answer.Kind != 0, kind == api.EvOpen)
		words := pick.Words(open(d, "https://x.com/"))
		same(t, kind, strings.Join([]string{number(d.Now()), strings.Join(names(d), ","), number(uint64(d.Waiting())), truth(d.Off("a", "x.com")), words}, " "), want)
	}
}

func number(n uint64) string {
	digits := ""
	for ; n > 9; n /= 10 {
		digits = string(rune('0'+n%10)) + digits
	}
	return string(rune('0'+n)) + digits
}

func truth(b bool) string {
	if b {
		return "true"
	}
	return "false"
}

// P29.1: what isn't a URL is refused, as layer 28 says.
func TestOpenRefused(t *testing.T) {
	a := apple("a", "x.com")
	a.Schemes = []string{"app"}
	d := with(t, a)
	comes(t, d, 1, "", speaks("a", "*"))
	for s, want := range map[string]string{
		"":                     "reject:url",
		"x.com":                "reject:url",
		"https:x.com":          "reject:host",
		"https://x.com/ ":      "reject:url",
		"https://x.com/%":      "reject:url",
		"https://x.com:1a/":    "reject:url",
		"https://x.com:65536/": "reject:url",
		"https://u@x.com/":     "reject:user",
		"https://@x.com/":      "reject:user",
		"app://u@x":            "reject:user",
		"https://":             "reject:host",
		"https:///":            "reject:host",
		"https://x..com/":      "reject:host",
		"https://1.2.3.400/":   "reject:host",
		"https://[::1/":        "reject:host",
		"app://[/":             "reject:host",
		"\xff":                 "reject:url",
		"1:":                   "reject:url",
		"https://x.com/" + strings.Repeat("a", api.MaxURL): "reject:url",
	} {
		opens(t, d, s, want)
		same(t, s, d.Explain(s), []string{want})
		_, err := url.Parse(s)
		_, got := d.Candidates(s)
		same(t, s, tells(got), tells(err))
		same(t, s, err != nil, true)
	}
}

// P29.1: the candidates' errors.
func TestCandidatesErrors(t *testing.T) {
	a := apple("a", "x.com")
	a.Schemes = []string{"app", "httpx"}
	d := with(t, a)
	for _, s := range []string{"app:x", "b://x.com/", "httpx://x.com", "APP:"} {
		list, err := d.Candidates(s)
		same(t, s, []any{len(list), tells(err)}, []any{0, told{kind: api.ErrScheme}})
	}
	for _, s := range []string{"", "https://u@x.com/", "https://x.com:1a", "https:", "app:%"} {
		list, err := d.Candidates(s)
		_, want := url.Parse(s)
		same(t, s, []any{len(list), tells(err)}, []any{0, tells(want)})
	}
}

// P29.1: the names are gone through in order, to the end that is told.
func TestApps(t *testing.T) {
	d := with(t, apple("c"), apple("a"), android("b"), apple("d"))
	uninstall(d, "a")
	install(d, apple("a"))
	want := []string{"c", "b", "d", "a"}
	same(t, "Apps", names(d), want)
	each := d.Apps()
	for most := 1; most <= 5; most++ {
		var met []string
		each(func(id string) bool {
			met = append(met, id)
			return len(met) < most
		})
		same(t, most, met, want[:min(most, 4)])
	}
}

// P29.1: the checks are gone through in order, as they are at now, to the end that is told.
func TestChecks(t *testing.T) {
	d := with(t, apple("b", "y.com", "x.com"), android("a", "x.com"))
	want := []api.Check{{App: "b", Apple: true, Host: name("y.com"), State: api.SiteGood, Due: 200, Until: 400}, {App: "b", Apple: true, Host: name("x.com"), State: api.SitePending}, {App: "a", Host: name("x.com"), State: api.SitePending}}
	comes(t, d, 1, "max-age=400", speaks("b"))
	each := d.Checks()
	for most := 1; most <= 4; most++ {
		var met []api.Check
		each(func(c api.Check) bool {
			met = append(met, c)
			return len(met) < most
		})
		same(t, most, met, want[:min(most, 3)])
	}
	tick(d, 399)
	same(t, "Checks", checks(d)[0].State, api.SiteGood)
	tick(d, 1)
	same(t, "Checks", checks(d)[0].State, api.SitePending)
	// What was given ahead of the tick tells how they are when they are gone through.
	each(func(c api.Check) bool {
		same(t, "what was given ahead", c.State, api.SitePending)
		return false
	})
}

// P29.1: State is asked for a name, with the text as it is.
func TestState(t *testing.T) {
	d := with(t, apple("a", "x.com", "*.y.com"), android("b", "x.com"))
	comes(t, d, 1, "no-store", speaks("a"))
	comes(t, d, 3, "", "?")
	for _, c := range []struct {
		app, host string
		want      int
	}{
		{"a", "x.com", api.SiteGood}, {"a", "y.com", api.SitePending}, {"b", "x.com", api.SiteFailed},
		{"a", "X.com", api.SiteNone}, {"a", "x.com.", api.SiteNone}, {"a", "q.y.com", api.SiteNone}, {"a", "*.y.com", api.SiteNone}, {"a", "", api.SiteNone},
		{"b", "y.com", api.SiteNone}, {"c", "x.com", api.SiteNone}, {"", "", api.SiteNone}, {"A", "x.com", api.SiteNone},
	} {
		same(t, c, d.State(c.app, c.host), c.want)
	}
	tick(d, 299)
	same(t, "at 299", d.State("a", "x.com"), api.SiteGood)
	tick(d, 1)
	same(t, "at 300", d.State("a", "x.com"), api.SitePending)
}

// The chapter's example, and those of DOC.md.
func TestExamples(t *testing.T) {
	a := apple("a", "x.com")
	d := dispatch.New()
	same(t, "one request", install(d, a), api.Outcome{Requests: []api.Request{{ID: 1, App: "a", Apple: true, Host: name("x.com"), URL: "https://x.com/.well-known/apple-app-site-association"}}})
	opens(t, d, "https://x.com/", "browser:unknown")
	comes(t, d, 1, "", speaks("a", "NOT /no", "*"))
	same(t, "its answer", open(d, "https://x.com/a"), api.Answer{Kind: api.OpenApp, Apps: []string{"a"}, Reason: api.WhyOne})
	opens(t, d, "https://x.com/no", "browser:rules")
	opens(t, d, "HTTPS://X.com.:443/%61", "open:one a")
	opens(t, d, "https://u@x.com/", "reject:user")
	opens(t, d, "app:x", "reject:nobody")

	b := android("b", "x.com")
	install(d, b)
	comes(t, d, 2, "", list(grants("b"), in("https://x.com/.well-known/assetlinks.json")))
	same(t, "a document that includes itself is fetched once", d.Waiting(), 0)
	opens(t, d, "https://x.com/a", "choose:several a b")
	toggle(d, "b", "x.com", false)
	opens(t, d, "https://x.com/a", "open:one a")
	toggle(d, "b", "", true)
	uninstall(d, "a")
	install(d, a)
	opens(t, d, "https://x.com/a", "open:one b")

	for _, r := range []api.Response{{Status: 200, Redirect: true}, {Status: 404}} {
		d = with(t, a)
		id := uint64(1)
		for _, wait := range []uint64{60, 120, 240, 480} {
			r.ID = id
			same(t, wait, deliver(d, r), api.Outcome{})
			same(t, wait, tick(d, wait-1), api.Outcome{})
			id++
			same(t, wait, tick(d, 1), api.Outcome{Requests: []api.Request{asked(id, a, "x.com")}})
		}
	}
}
