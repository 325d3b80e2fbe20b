package verify_test

import (
	"errors"
	"math"
	"reflect"
	"slices"
	"strconv"
	"strings"
	"testing"
	"unsafe"

	"waybill/aasa"
	"waybill/api"
	"waybill/chain"
	"waybill/fresh"
	"waybill/links"
	"waybill/verify"
	"waybill/wire"
)

func same(t *testing.T, what any, got, want any) {
	t.Helper()
	if !reflect.DeepEqual(got, want) {
		t.Errorf("%.300v: got %+v, want %+v", what, got, want)
	}
}

// told is an error as the chapters tell it: kind 0 is none.
type told struct {
	kind  api.Errno
	at    int
	inner error
}

// tells gives the error that an error is; of one that isn't a fault a kind below 0.
func tells(err error) told {
	if err == nil {
		return told{}
	}
	f, ok := err.(*api.Fault)
	if !ok || f == nil || !errors.Is(err, f.Kind) {
		return told{kind: -1}
	}
	return told{f.Kind, f.At, f.Inner}
}

// name gives the host of a name.
func name(text string) api.Host { return api.Host{Kind: api.HostName, Text: text} }

var site = name("x.com")

const (
	appleURL = "https://x.com/.well-known/apple-app-site-association"
	root     = "https://x.com/.well-known/assetlinks.json"
)

// body is a fetch that a document came of.
func body(text string) api.Fetched { return api.Fetched{Body: []byte(text)} }

// association is a document of Apple's that tells of an app.
func association(bundle string) api.Fetched {
	return body(`{"applinks":{"details":[{"appID":"ABCDE12345.` + bundle + `","paths":["*"]}]}}`)
}

// toldApp is what that tells.
func toldApp(bundle string) api.Assoc {
	return api.Assoc{Details: []api.Detail{{Apps: []api.AppID{{Team: "ABCDE12345", Bundle: bundle}}, Rules: []api.Rule{{Path: "*", HasPath: true}}}}}
}

// other is a statement of a relation, in is one that includes a URL.
func other(relation string) string {
	return `{"relation":["` + relation + `"],"target":{"namespace":"z"}}`
}

func in(site string) string { return `{"include":"` + site + `"}` }

// list is a document of Android's with some statements.
func list(statements ...string) api.Fetched { return body("[" + strings.Join(statements, ",") + "]") }

// toldOthers is what other statements tell.
func toldOthers(relations ...string) []api.Statement {
	var told []api.Statement
	for _, one := range relations {
		told = append(told, api.Statement{Kind: api.StOther, Relations: []string{one}})
	}
	return told
}

// inTurn gives statements that include so many URLs.
func inTurn(count int) []string {
	var statements []string
	for n := range count {
		statements = append(statements, in("https://h"+strconv.Itoa(n)+"/"))
	}
	return statements
}

// plain makes lists without elements nil: these are one.
func plain(a api.Assoc) api.Assoc {
	var b api.Assoc
	for _, d := range a.Details {
		one := api.Detail{Apps: append([]api.AppID(nil), d.Apps...)}
		for _, r := range d.Rules {
			r.Items = append([]api.Item(nil), r.Items...)
			one.Rules = append(one.Rules, r)
		}
		b.Details = append(b.Details, one)
	}
	for _, v := range a.Vars {
		b.Vars = append(b.Vars, api.Var{Name: v.Name, Values: append([]string(nil), v.Values...)})
	}
	return b
}

func plainList(list []api.Statement) []api.Statement {
	var others []api.Statement
	for _, s := range list {
		s.Relations = append([]string(nil), s.Relations...)
		s.Prints = append([]api.Print(nil), s.Prints...)
		others = append(others, s)
	}
	return others
}

// urls gives the URLs of all that is due.
func urls(v *verify.Table, now uint64) []string {
	var list []string
	for _, w := range v.Due(now) {
		list = append(list, w.URL)
	}
	return list
}

// all gives all that Each tells.
func all(v *verify.Table, now uint64) []api.Check {
	var list []api.Check
	for c := range v.Each(now) {
		list = append(list, c)
	}
	return list
}

// needs puts the check of the site by an app in, due at once.
func needs(t *testing.T, app string, apple bool) *verify.Table {
	t.Helper()
	v := verify.New()
	same(t, "Need", v.Need(app, apple, site, 0), true)
	return v
}

// goes asks for the fetch of the only check, and delivers what came of it, at one tick.
func goes(t *testing.T, v *verify.Table, f api.Fetched, cache string, now uint64) {
	t.Helper()
	same(t, "how many fetches are due", len(v.Due(now)), 1)
	same(t, "Deliver", v.Deliver("a", site, f, cache, now), error(nil))
}

// next asks for what Next tells of the check of app a.
func next(t *testing.T, what any, v *verify.Table, due, until uint64) {
	t.Helper()
	gotDue, gotUntil, ok := v.Next("a", site)
	same(t, what, []any{gotDue, gotUntil, ok}, []any{due, until, true})
}

// P27.1
func TestNeed(t *testing.T) {
	v := verify.New()
	same(t, "Len", v.Len(), 0)
	v4, none := api.Host{Kind: api.HostV4, Text: "x.com"}, api.Host{}
	for i, c := range []api.Check{
		{App: "b", Apple: true, Host: site, Due: 9},
		{App: "a", Host: site, Due: 9},
		{App: "b", Host: name("y.com"), Due: 8},
		{App: "b", Apple: true, Host: v4, Due: 10},
		{App: "", Host: none, Due: math.MaxUint64},
		{App: "\xff", Apple: true, Host: name("\xff")},
	} {
		same(t, c, v.Need(c.App, c.Apple, c.Host, c.Due), true)
		same(t, "Len", v.Len(), i+1)
		for _, apple := range []bool{true, false} {
			same(t, "Need of one that there is", v.Need(c.App, apple, c.Host, 100), false)
		}
		c.State = api.SitePending
		same(t, "what is told of the last one", all(v, 9)[i:], []api.Check{c})
	}
	for _, app := range []string{"", "c", "B", "ab"} {
		for _, h := range []api.Host{site, name("z.com"), {Kind: api.HostV6, Text: "x.com"}} {
			due, until, ok := v.Next(app, h)
			same(t, "Next of none", []any{due, until, ok}, []any{uint64(0), uint64(0), false})
			same(t, "State of none", v.State(app, h, 0), api.SiteNone)
		}
	}
}

// P27.1
func TestForget(t *testing.T) {
	v := verify.New()
	same(t, "Forget of none", len(v.Forget("a")), 0)
	for _, c := range []string{"a z", "b z", "a y", "c z", "a x", "A z", " z"} {
		app, text, _ := strings.Cut(c, " ")
		same(t, c, v.Need(app, len(text)%2 == 0, name(text), 0), true)
	}
	for _, app := range []string{"ab", "x", "z"} {
		same(t, app, len(v.Forget(app)), 0)
	}
	same(t, "Len", v.Len(), 7)
	same(t, "Forget", v.Forget("a"), []api.Host{name("z"), name("y"), name("x")})
	same(t, "Forget again", len(v.Forget("a")), 0)
	same(t, "Forget of no name", v.Forget(""), []api.Host{name("z")})
	same(t, "Len", v.Len(), 3)
	same(t, "State", v.State("a", name("y"), 0), api.SiteNone)
	same(t, "Deliver", tells(v.Deliver("a", name("y"), api.Fetched{}, "", 0)), told{kind: api.ErrName})
	same(t, "Need again", v.Need("a", true, name("y"), 5), true)
	var left []string
	for _, c := range all(v, 0) {
		left = append(left, c.App+" "+c.Host.Text)
	}
	same(t, "those that are left, in order", left, []string{"b z", "c z", "A z", "a y"})
}

// P27.1: what was known, was under way and went on is forgotten, too.
func TestForgetAll(t *testing.T) {
	for _, apple := range []bool{true, false} {
		v := needs(t, "a", apple)
		goes(t, v, association("x"), "", 5)
		if !apple {
			v = needs(t, "a", apple)
			goes(t, v, list(other("r/1")), "", 5)
		}
		same(t, "State", v.State("a", site, 5), api.SiteGood)
		same(t, "what is due", len(v.Due(1<<40)), 1)
		same(t, "Forget", v.Forget("a"), []api.Host{site})
		same(t, "Need", v.Need("a", apple, site, 7), true)
		same(t, "Each", all(v, 7), []api.Check{{App: "a", Apple: apple, Host: site, State: api.SitePending, Due: 7}})
		same(t, "Deliver", tells(v.Deliver("a", site, association("x"), "", 7)), told{kind: api.ErrState})
	}
	v := needs(t, "a", false)
	goes(t, v, list(in("https://y/")), "", 0)
	v.Forget("a")
	v.Need("a", false, site, 7)
	same(t, "what is due", urls(v, 6), []string(nil))
	same(t, "what is due", urls(v, 7), []string{root})
}

// P27.2: from its tick on a check is due, and once alone.
func TestDue(t *testing.T) {
	v := verify.New()
	same(t, "no checks", len(v.Due(math.MaxUint64)), 0)
	v6 := api.Host{Kind: api.HostV6, Text: "::1"}
	v.Need("b", false, v6, 20)
	v.Need("a", true, v6, 10)
	v.Need("b", true, site, 30)
	v.Need("a", false, site, 10)
	same(t, "ahead of all", len(v.Due(9)), 0)
	want := []api.Want{
		{App: "a", Apple: true, Host: v6, URL: "https://[::1]/.well-known/apple-app-site-association"},
		{App: "a", Host: site, URL: root},
		{App: "b", Host: v6, URL: "https://[::1]/.well-known/assetlinks.json"},
		{App: "b", Apple: true, Host: site, URL: appleURL},
	}
	same(t, "at 10", v.Due(10), want[:2])
	for _, now := range []uint64{10, 11, 19} {
		same(t, now, len(v.Due(now)), 0)
	}
	v.Need("c", true, name("c"), 20)
	same(t, "at 25", v.Due(25), []api.Want{want[2], {App: "c", Apple: true, Host: name("c"), URL: "https://c/.well-known/apple-app-site-association"}})
	same(t, "at the last tick", v.Due(math.MaxUint64), want[3:])
	same(t, "at the last tick, again", len(v.Due(math.MaxUint64)), 0)
}

// P27.2 and P27.3: a chain goes on at once, whatever the check's due is, and a new one begins behind its end.
func TestDueChain(t *testing.T) {
	v := verify.New()
	v.Need("a", false, site, 100)
	v.Need("b", true, site, 50)
	same(t, "at 100", urls(v, 100), []string{root, appleURL})
	same(t, "Deliver", v.Deliver("a", site, list(in("https://y/"), other("r/1"), in("https://z/")), "max-age=1000", 110), error(nil))
	next(t, "Next, while it goes on", v, 100, 0)
	same(t, "State, while it goes on", v.State("a", site, 110), api.SitePending)
	// now is below its due here, and it goes on nevertheless.
	same(t, "the next one", v.Due(0), []api.Want{{App: "a", Host: site, URL: "https://y/"}})
	same(t, "none more", urls(v, 110), []string(nil))
	same(t, "Deliver", v.Deliver("a", site, list(other("r/2"), in("https://z/"), in(root)), "no-store", 120), error(nil))
	same(t, "the next one", urls(v, 120), []string{"https://z/"})
	same(t, "Deliver", v.Deliver("a", site, api.Fetched{Err: api.Fail(api.ErrStatus, 0)}, "max-age=7000", 200), error(nil))
	next(t, "Next behind its end", v, 700, 1200)
	got, ok := v.Links("a", site, 1199)
	same(t, "Links", []any{plainList(got), ok}, []any{toldOthers("r/1", "r/2"), true})
	same(t, "what is due behind its end", urls(v, 699), []string(nil))
	same(t, "what is due then", urls(v, 700), []string{root})
	same(t, "Deliver", v.Deliver("a", site, list(other("r/3")), "", 700), error(nil))
	got, ok = v.Links("a", site, 700)
	same(t, "Links", []any{plainList(got), ok}, []any{toldOthers("r/3"), true})
	next(t, "Next", v, 700+43200, 700+86400)
}

// P27.3: the errors, in their order; they change nothing.
func TestDeliverErrors(t *testing.T) {
	for _, apple := range []bool{true, false} {
		v := verify.New()
		v.Need("a", apple, site, 10)
		fetched := []api.Fetched{{}, association("x"), list(), {Err: api.Fail(api.ErrTime, 0)}}
		refused := func(now uint64) {
			t.Helper()
			ahead := all(v, now)
			for _, f := range fetched {
				for _, c := range []api.Want{{App: "b", Host: site}, {App: "a", Host: name("y.com")}, {App: "a", Host: api.Host{Kind: api.HostV4, Text: "x.com"}}, {App: "", Host: site}, {App: "x.com", Host: name("a")}} {
					same(t, c, tells(v.Deliver(c.App, c.Host, f, "", now)), told{kind: api.ErrName})
				}
			}
			same(t, "Each", all(v, now), ahead)
		}
		unasked := func(now uint64) {
			t.Helper()
			ahead := all(v, now)
			for _, f := range fetched {
				same(t, f, tells(v.Deliver("a", site, f, "", now)), told{kind: api.ErrState})
			}
			same(t, "Each", all(v, now), ahead)
		}
		refused(9)
		unasked(9)
		same(t, "not due yet", len(v.Due(9)), 0)
		unasked(9)
		same(t, "due", len(v.Due(10)), 1)
		refused(10)
		same(t, "Deliver", v.Deliver("a", site, api.Fetched{Err: errors.New("own")}, "", 10), error(nil))
		refused(10)
		unasked(10)
		same(t, "due again", len(v.Due(70)), 1)
		f := association("x")
		if !apple {
			f = list(in("https://y/"))
		}
		same(t, "Deliver", v.Deliver("a", site, f, "", 70), error(nil))
		// Of Android's the chain goes on now, and none is under way.
		unasked(70)
		same(t, "due again", len(v.Due(1<<40)), 1)
		refused(1 << 40)
	}
}

// lives are texts, and how long that which came with them lasts.
func lives() map[string]uint64 {
	return map[string]uint64{
		"": 86400, "max-age=600": 600, "max-age=601": 601, "max-age=1": 300, "max-age=301": 301, "no-store": 300, "NO-CACHE, max-age=999": 300,
		"max-age=604801": 604800, "max-age=18446744073709551615": 604800, "nonsense nonsense": 86400, "public": 86400, strings.Repeat("a", 1001): 86400,
	}
}

// P27.3 and P27.4: how long a document may be used, and when its check is due again.
func TestLife(t *testing.T) {
	for cache, life := range lives() {
		for _, apple := range []bool{true, false} {
			f := association("x")
			if !apple {
				f = list(other("r/1"))
			}
			for _, now := range []uint64{0, 17, 1 << 50} {
				v := needs(t, "a", apple)
				goes(t, v, f, cache, now)
				next(t, cache, v, now+life/2, now+life)
			}
			// Behind the last tick there is none.
			v := needs(t, "a", apple)
			goes(t, v, f, cache, math.MaxUint64-life/2)
			next(t, cache, v, math.MaxUint64, math.MaxUint64)
			same(t, "State", v.State("a", site, math.MaxUint64-1), api.SiteGood)
			same(t, "State", v.State("a", site, math.MaxUint64), api.SitePending)
		}
		// Of Android's what comes with other documents than the root has no say.
		v := needs(t, "a", false)
		goes(t, v, list(in("https://y/"), in("https://z/")), cache, 3)
		goes(t, v, list(), "max-age=77777", 50)
		goes(t, v, list(), "max-age=777", 60)
		next(t, cache, v, 60+life/2, 60+life)
		// And what came with an elder root neither.
		now := 60 + life/2
		goes(t, v, list(in("https://y/")), "max-age=1000", now)
		goes(t, v, list(), cache, now)
		next(t, cache, v, now+500, now+1000)
	}
}

// P27.4 and the chapter's example: without a document a check is due again later and later.
func TestFailures(t *testing.T) {
	for _, apple := range []bool{true, false} {
		v := needs(t, "a", apple)
		now := uint64(0)
		for i, wait := range []uint64{60, 120, 240, 480, 960, 1920, 3840, 7680, 15360, 30720, 61440, 86400, 86400, 86400} {
			same(t, "State", v.State("a", site, now), []int{api.SitePending, api.SiteFailed}[min(i, 1)])
			goes(t, v, api.Fetched{Err: api.Fail(api.ErrTime, 0)}, "max-age=600", now)
			next(t, i, v, now+wait, 0)
			same(t, "Failures", all(v, now)[0].Failures, i+1)
			same(t, "a tick ahead of it", len(v.Due(now+wait-1)), 0)
			now += wait
		}
		f := association("x")
		if !apple {
			f = list()
		}
		goes(t, v, f, "max-age=600", now)
		next(t, "a document", v, now+300, now+600)
		same(t, "Failures", all(v, now)[0].Failures, 0)
		goes(t, v, body("?"), "", now+300)
		next(t, "a failure behind it", v, now+360, now+600)

		v = needs(t, "a", apple)
		goes(t, v, body("?"), "", math.MaxUint64-59)
		next(t, "behind the last tick", v, math.MaxUint64, 0)
	}
}

// P27.3: what has failed, and what hasn't.
func TestFailed(t *testing.T) {
	own := errors.New("own")
	good := association("x")
	fails := func(apple bool, f api.Fetched, failed bool) {
		t.Helper()
		v := needs(t, "a", apple)
		goes(t, v, f, "", 5)
		same(t, string(f.Body), all(v, 5)[0].Failures, map[bool]int{true: 1, false: 0}[failed])
		same(t, string(f.Body), v.State("a", site, 5), map[bool]int{true: api.SiteFailed, false: api.SiteGood}[failed])
	}
	for _, f := range []api.Fetched{{}, {Err: own}, {Err: api.ErrTime}, {Err: api.Fail(api.ErrStatus, 0)}, {Err: own, Body: good.Body}, {Err: own, Body: list().Body}, body("{}"), body("[{}]"), body("nonsense"), body(`{"applinks":{"details":[{"paths":["*"]}]}}`), body(`[{"include":"http://y/"}]`)} {
		for _, apple := range []bool{true, false} {
			fails(apple, f, true)
		}
	}
	fails(true, good, false)
	fails(false, good, true)
	fails(true, body(`{"applinks":{}}`), false)
	fails(false, list(), false)
	fails(true, list(), true)
	fails(false, list(other("r/1")), false)
	fails(true, body(string(good.Body)+strings.Repeat(" ", 131072)), true)
	fails(false, body("[]"+strings.Repeat(" ", 131072)), false)

	// Another document of a chain doesn't matter.
	for _, f := range []api.Fetched{{Err: own}, body("?"), {}, association("x")} {
		v := needs(t, "a", false)
		goes(t, v, list(other("r/1"), in("https://y/")), "", 0)
		goes(t, v, f, "", 0)
		got, ok := v.Links("a", site, 0)
		same(t, string(f.Body), []any{plainList(got), ok}, []any{toldOthers("r/1"), true})
	}
}

// P27.3: ten inclusions are followed, and an eleventh one fails.
func TestInclusions(t *testing.T) {
	v := needs(t, "a", false)
	goes(t, v, list(inTurn(10)...), "", 0)
	for n := range 10 {
		same(t, "State", v.State("a", site, 0), api.SitePending)
		same(t, "the next one", urls(v, 0), []string{"https://h" + strconv.Itoa(n) + "/"})
		same(t, "Deliver", v.Deliver("a", site, list(inTurn(10)...), "", 0), error(nil))
	}
	same(t, "State", v.State("a", site, 0), api.SiteGood)
	same(t, "what is due", urls(v, 0), []string(nil))

	v = needs(t, "a", false)
	goes(t, v, list(append(inTurn(11), other("r/1"))...), "", 7)
	next(t, "an eleventh one in the root", v, 67, 0)
	same(t, "State", v.State("a", site, 7), api.SiteFailed)
	same(t, "what is due", urls(v, 67), []string{root})

	v = needs(t, "a", false)
	goes(t, v, list(other("r/1"), in("https://y/")), "", 7)
	goes(t, v, list(inTurn(10)...), "", 9)
	next(t, "an eleventh one in another document", v, 69, 0)
	same(t, "State", v.State("a", site, 9), api.SiteFailed)
	same(t, "what is due ahead of that", urls(v, 68), []string(nil))
	same(t, "what is due", urls(v, 69), []string{root})
}

// P27.4 and P27.5: a document that is known stays, until its time is over.
func TestKnown(t *testing.T) {
	for _, apple := range []bool{true, false} {
		docs, tells := []api.Fetched{association("x"), association("y")}, []any{[]any{toldApp("x"), true}, []any{toldApp("y"), true}}
		if !apple {
			docs, tells = []api.Fetched{list(other("r/1")), list(other("r/2"))}, []any{[]any{toldOthers("r/1"), true}, []any{toldOthers("r/2"), true}}
		}
		nothing := []any{api.Assoc{}, false}
		if !apple {
			nothing = []any{[]api.Statement(nil), false}
		}
		v := needs(t, "a", apple)
		v.Need("a", !apple, name("y.com"), 1<<60)
		v.Need("b", apple, site, 1<<60)
		known := func(now uint64, state int, want any) {
			t.Helper()
			a, aOK := v.Assoc("a", site, now)
			l, lOK := v.Links("a", site, now)
			got, off := []any{plain(a), aOK}, []any{plainList(l), lOK}
			if apple {
				same(t, "Links of Apple's", off, []any{[]api.Statement(nil), false})
			} else {
				got, off = off, got
				same(t, "Assoc of Android's", off, []any{api.Assoc{}, false})
			}
			same(t, now, got, want)
			same(t, now, v.State("a", site, now), state)
			same(t, now, all(v, now)[0].State, state)
		}
		known(0, api.SitePending, nothing)
		goes(t, v, docs[0], "max-age=600", 0)
		known(0, api.SiteGood, tells[0])
		known(599, api.SiteGood, tells[0])
		known(600, api.SitePending, nothing)
		goes(t, v, api.Fetched{Err: api.ErrTime}, "", 300)
		next(t, "a failure", v, 360, 600)
		known(300, api.SiteGood, tells[0])
		known(599, api.SiteGood, tells[0])
		known(600, api.SiteFailed, nothing)
		goes(t, v, docs[1], "max-age=1000", 360)
		known(360, api.SiteGood, tells[1])
		known(1359, api.SiteGood, tells[1])
		known(1360, api.SitePending, nothing)
		known(math.MaxUint64, api.SitePending, nothing)
		goes(t, v, body("?"), "", 2000)
		known(2000, api.SiteFailed, nothing)
		goes(t, v, docs[0], "no-cache", 2060)
		known(2060, api.SiteGood, tells[0])
		known(2359, api.SiteGood, tells[0])
		known(2360, api.SitePending, nothing)

		for _, c := range []api.Want{{App: "b", Host: site}, {App: "a", Host: name("y.com")}, {App: "c", Host: site}, {App: "a", Host: api.Host{Kind: api.HostV4, Text: "x.com"}}} {
			a, aOK := v.Assoc(c.App, c.Host, 2060)
			l, lOK := v.Links(c.App, c.Host, 2060)
			same(t, c, []any{plain(a), aOK, plainList(l), lOK}, []any{api.Assoc{}, false, []api.Statement(nil), false})
		}
	}
}

// P27.4: an elder document is told while a new chain goes on, and none of what that tells so far.
func TestKnownMeanwhile(t *testing.T) {
	v := needs(t, "a", false)
	goes(t, v, list(other("r/1")), "max-age=600", 0)
	goes(t, v, list(other("r/2"), in("https://y/")), "max-age=600", 300)
	next(t, "Next", v, 300, 600)
	got, ok := v.Links("a", site, 599)
	same(t, "Links", []any{plainList(got), ok}, []any{toldOthers("r/1"), true})
	same(t, "State", v.State("a", site, 600), api.SitePending)
	goes(t, v, list(other("r/3")), "", 400)
	got, ok = v.Links("a", site, 999)
	same(t, "Links", []any{plainList(got), ok}, []any{toldOthers("r/2", "r/3"), true})
	next(t, "Next", v, 700, 1000)
}

// P27.5: it ends when it is told so, and goes through the checks anew each time.
func TestEach(t *testing.T) {
	v := verify.New()
	want := []api.Check{{App: "a", Apple: true, Host: site}, {App: "b", Host: site, Due: 9}, {App: "a", Host: name("y"), Due: 5}}
	for i := range want {
		v.Need(want[i].App, want[i].Apple, want[i].Host, want[i].Due)
		want[i].State = api.SitePending
	}
	each := v.Each(0)
	for most := 1; most <= 4; most++ {
		var met []api.Check
		each(func(c api.Check) bool {
			met = append(met, c)
			return len(met) < most
		})
		same(t, most, met, want[:min(most, 3)])
	}
	v.Due(0)
	v.Deliver("a", site, association("x"), "max-age=600", 2)
	v.Due(9)
	v.Deliver("b", site, body("?"), "", 10)
	v.Deliver("a", name("y"), list(in("https://z/")), "", 10)
	want[0].State, want[0].Due, want[0].Until = api.SiteGood, 302, 602
	want[1].State, want[1].Failures, want[1].Due = api.SiteFailed, 1, 70
	same(t, "Each", all(v, 601), want)
	want[0].State = api.SitePending
	same(t, "Each, later", all(v, 602), want)
}

// record is a check by the chapter's words.
type record struct {
	api.Check
	assoc    api.Assoc
	links    []api.Statement
	underway bool
	chain    *chain.Chain
	life     uint64
}

// model is a table by the chapter's words.
type model []*record

func (m *model) find(app string, h api.Host) *record {
	for _, r := range *m {
		if r.App == app && r.Host == h {
			return r
		}
	}
	return nil
}

func (m *model) forget(app string) (hosts []api.Host) {
	var stay model
	for _, r := range *m {
		if r.App == app {
			hosts = append(hosts, r.Host)
		} else {
			stay = append(stay, r)
		}
	}
	*m = stay
	return hosts
}

func (m *model) due(now uint64) (list []api.Want) {
	for _, r := range *m {
		if r.underway || r.Due > now && r.chain == nil {
			continue
		}
		r.underway = true
		w := api.Want{App: r.App, Apple: r.Apple, Host: r.Host, URL: wire.AppleURL(r.Host)}
		if !r.Apple {
			if r.chain == nil {
				r.chain = chain.New(r.Host)
			}
			w.URL, _ = r.chain.Next()
		}
		list = append(list, w)
	}
	return list
}

func (m *model) deliver(app string, f api.Fetched, cache string, now uint64) told {
	r := m.find(app, site)
	if r == nil {
		return told{kind: api.ErrName}
	}
	if !r.underway {
		return told{kind: api.ErrState}
	}
	r.underway = false
	failed, life := f.Err != nil, fresh.Life(cache)
	if r.Apple {
		a, err := aasa.Decode(f.Body)
		failed = failed || err != nil
		if !failed {
			r.assoc = plain(a)
		}
	} else {
		if next, _ := r.chain.Next(); next == chain.Root(r.Host) {
			r.life = life
		}
		r.chain.Deliver(f)
		if !r.chain.Done() {
			return told{}
		}
		failed, life = r.chain.Err() != nil, r.life
		if !failed {
			r.links = plainList(r.chain.Statements())
		}
		r.chain = nil
	}
	if failed {
		r.Failures++
		r.Due = fresh.Later(now, fresh.Wait(r.Failures))
	} else {
		r.Failures, r.Due, r.Until = 0, fresh.Later(now, life/2), fresh.Later(now, life)
	}
	return told{}
}

// stands asks that a table tells at a tick what the model does.
func (m *model) stands(t *testing.T, what any, v *verify.Table, now uint64) {
	t.Helper()
	var want []api.Check
	for _, r := range *m {
		c := r.Check
		switch {
		case now < c.Until:
			c.State = api.SiteGood
		case c.Failures != 0:
			c.State = api.SiteFailed
		default:
			c.State = api.SitePending
		}
		want = append(want, c)
		same(t, what, v.State(c.App, c.Host, now), c.State)
		a, aOK := v.Assoc(c.App, c.Host, now)
		l, lOK := v.Links(c.App, c.Host, now)
		wantAssoc, wantLinks := []any{api.Assoc{}, false}, []any{[]api.Statement(nil), false}
		if c.State == api.SiteGood && c.Apple {
			wantAssoc = []any{r.assoc, true}
		}
		if c.State == api.SiteGood && !c.Apple {
			wantLinks = []any{r.links, true}
		}
		same(t, what, []any{plain(a), aOK}, wantAssoc)
		same(t, what, []any{plainList(l), lOK}, wantLinks)
		due, until, ok := v.Next(c.App, c.Host)
		same(t, what, []any{due, until, ok}, []any{c.Due, c.Until, true})
	}
	same(t, what, all(v, now), want)
	same(t, what, v.Len(), len(*m))
}

// both does a step of some number to a table and to the model.
func (m *model) both(t *testing.T, what any, v *verify.Table, step int, now uint64) {
	t.Helper()
	apps := []string{"a", "b"}
	app := apps[step%2]
	fetched := []api.Fetched{{Err: api.ErrTime}, association("x"), list(other("r/1")), list(other("r/2"), in("https://y/"))}
	switch n := step / 2; n {
	case 0, 1:
		want := m.find(app, site) == nil
		if want {
			*m = append(*m, &record{Check: api.Check{App: app, Apple: n == 0, Host: site, Due: now}})
		}
		same(t, what, v.Need(app, n == 0, site, now), want)
	case 2:
		same(t, what, v.Forget(app), m.forget(app))
	case 3, 4, 5, 6:
		cache := []string{"max-age=400", "no-store"}[step%2]
		same(t, what, tells(v.Deliver(app, site, fetched[n-3], cache, now)), m.deliver(app, fetched[n-3], cache, now))
	default:
		same(t, what, v.Due(now), m.due(now))
	}
	m.stands(t, what, v, now)
}

// P27.1 to P27.5: long rows of steps, against the chapter's words.
func TestRows(t *testing.T) {
	seed := uint32(1)
	pick := func(n int) int {
		seed = seed*1664525 + 1013904223
		return int(seed>>16) % n
	}
	for row := range 3000 {
		v, m := verify.New(), &model{}
		now := uint64(0)
		for at := range 40 {
			now += []uint64{0, 0, 1, 60, 150, 200}[pick(6)]
			step := pick(22)
			m.both(t, []any{"row", row, "step", at, "of number", step, "at", now}, v, step, now)
		}
		if t.Failed() {
			return
		}
	}
}

// P27.1 to P27.5: all rows of three steps, behind a beginning, against the chapter's words.
func TestAllRows(t *testing.T) {
	const kinds, most = 15, 3
	rows := 1
	for range most {
		rows *= kinds
	}
	for row := range rows {
		v, m := verify.New(), &model{}
		m.both(t, row, v, 0, 0)
		m.both(t, row, v, 3, 0)
		m.both(t, row, v, 14, 0)
		for at, rest := 1, row; at <= most; at, rest = at+1, rest/kinds {
			m.both(t, []any{"row", row, "step", at, "of number", rest % kinds}, v, rest%kinds, uint64(100*at))
		}
		if t.Failed() {
			return
		}
	}
}

// P27.6: what is handed in stays, its spare room, too, and may be written over behind the call.
func TestHandedInStays(t *testing.T) {
	for _, apple := range []bool{true, false} {
		whole := append(association("x").Body, "more"...)
		if !apple {
			whole = append(list(other("r/1")).Body, "more"...)
		}
		ahead := slices.Clone(whole)
		v := needs(t, "a", apple)
		fault := &api.Fault{Kind: api.ErrTime, At: 3}
		goes(t, v, api.Fetched{Err: fault, Body: whole[:len(whole)-4]}, "", 0)
		same(t, "the error", *fault, api.Fault{Kind: api.ErrTime, At: 3})
		goes(t, v, api.Fetched{Body: whole[:len(whole)-4]}, "", 60)
		same(t, "the body and what is behind it", whole, ahead)
		clear(whole)
		a, _ := v.Assoc("a", site, 60)
		l, _ := v.Links("a", site, 60)
		if apple {
			same(t, "Assoc", plain(a), toldApp("x"))
		} else {
			same(t, "Links", plainList(l), toldOthers("r/1"))
		}
	}
}

func share(a, b string) bool {
	return len(a) > 0 && len(b) > 0 && unsafe.StringData(a) == unsafe.StringData(b)
}

const fullApple = `{"applinks":{"substitutionVariables":{"v":["one","two"],"w":["three"]},"details":[{"appIDs":["ABCDE12345.x","ABCDE12345.y"],"components":[{"/":"/a","?":{"k":"v","l":"w"},"#":"f"},{"?":"q"}]},{"appIDs":["ABCDE12345.z"],"components":[{"/":"/c"}]}]}}`

var fullAndroid = `[{"relation":["r/1","r/2"],"target":{"namespace":"android_app","package_name":"com.x","sha256_cert_fingerprints":["` + "01" + strings.Repeat(":00", 31) + `","` + "02" + strings.Repeat(":00", 31) + `"]}},{"relation":["r/3"],"target":{"namespace":"web","site":"https://x.com"}}]`

// textsOf gives all texts of an association.
func textsOf(a api.Assoc) (list []string) {
	for _, d := range a.Details {
		for _, app := range d.Apps {
			list = append(list, app.Team, app.Bundle)
		}
		for _, r := range d.Rules {
			list = append(list, r.Path, r.Query, r.Fragment)
			for _, i := range r.Items {
				list = append(list, i.Name, i.Value)
			}
		}
	}
	for _, v := range a.Vars {
		list = append(append(list, v.Name), v.Values...)
	}
	return list
}

// emptied writes over all that an association has, its spare room, too.
func emptied(a api.Assoc) {
	for _, d := range a.Details {
		for _, r := range d.Rules {
			clear(r.Items[:cap(r.Items)])
		}
		clear(d.Apps[:cap(d.Apps)])
		clear(d.Rules[:cap(d.Rules)])
	}
	for _, v := range a.Vars {
		clear(v.Values[:cap(v.Values)])
	}
	clear(a.Details[:cap(a.Details)])
	clear(a.Vars[:cap(a.Vars)])
}

// P27.6: associations may be written over, their spare room, too.
func TestAssocIsNew(t *testing.T) {
	v := needs(t, "a", true)
	goes(t, v, body(fullApple), "", 0)
	decoded, err := aasa.Decode([]byte(fullApple))
	same(t, "Decode", err, error(nil))
	want := plain(decoded)
	one, _ := v.Assoc("a", site, 0)
	two, _ := v.Assoc("a", site, 0)
	same(t, "Assoc", plain(one), want)
	for i, s := range textsOf(one) {
		same(t, "whether a text is the other answer's: "+s, share(s, textsOf(two)[i]), false)
	}
	for i, d := range one.Details {
		_ = append(d.Apps, api.AppID{Team: "z"})
		_ = append(d.Rules, api.Rule{Path: "z"})
		for _, r := range d.Rules {
			_ = append(r.Items, api.Item{Name: "z"})
		}
		same(t, "behind detail "+strconv.Itoa(i), plain(one), want)
	}
	for i, x := range one.Vars {
		_ = append(x.Values, "z")
		same(t, "behind variable "+strconv.Itoa(i), plain(one), want)
	}
	emptied(one)
	same(t, "the other answer", plain(two), want)
	one, _ = v.Assoc("a", site, 0)
	same(t, "the next answer", plain(one), want)
}

// P27.6: so may statements.
func TestLinksAreNew(t *testing.T) {
	v := needs(t, "a", false)
	goes(t, v, body(fullAndroid), "", 0)
	decoded, err := links.Decode([]byte(fullAndroid))
	same(t, "Decode", err, error(nil))
	want := plainList(decoded)
	one, _ := v.Links("a", site, 0)
	two, _ := v.Links("a", site, 0)
	same(t, "Links", plainList(one), want)
	for i, s := range one {
		same(t, "whether texts are the other answer's", []bool{share(s.Relations[0], two[i].Relations[0]), share(s.Package, two[i].Package), share(s.Site, two[i].Site)}, make([]bool, 3))
		_ = append(s.Relations, "z")
		_ = append(s.Prints, api.Print{9})
		same(t, "behind statement "+strconv.Itoa(i), plainList(one), want)
	}
	for _, s := range one {
		clear(s.Relations[:cap(s.Relations)])
		clear(s.Prints[:cap(s.Prints)])
	}
	clear(one[:cap(one)])
	same(t, "the other answer", plainList(two), want)
	one, _ = v.Links("a", site, 0)
	same(t, "the next answer", plainList(one), want)
}

// P27.6: so may the other answers.
func TestAnswersAreNew(t *testing.T) {
	v := verify.New()
	for _, text := range []string{"x", "y", "z"} {
		v.Need("a", true, name(text), 0)
		v.Need("b", true, name(text), 0)
	}
	one := v.Due(0)
	want := all(v, 0)
	same(t, "whether texts are another answer's", []bool{share(one[0].App, want[0].App), share(one[0].Host.Text, want[0].Host.Text), share(all(v, 0)[0].App, want[0].App), share(all(v, 0)[0].Host.Text, want[0].Host.Text)}, make([]bool, 4))
	clear(one[:cap(one)])
	same(t, "Each", all(v, 0), want)
	hosts := v.Forget("a")
	clear(hosts[:cap(hosts)])
	same(t, "the other hosts", v.Forget("b"), []api.Host{name("x"), name("y"), name("z")})

	app, h := strings.Clone("an app"), name(strings.Clone("a host"))
	v.Need(app, true, h, 0)
	due := v.Due(0)[0]
	same(t, "whether texts are what was handed in", []bool{share(app, due.App), share(h.Text, due.Host.Text)}, make([]bool, 2))
	same(t, "whether it is what was handed in", share(h.Text, v.Forget(app)[0].Text), false)
	v.Deliver("a", site, api.Fetched{}, "", 0).(*api.Fault).At = 9
	same(t, "Deliver", tells(v.Deliver("a", site, api.Fetched{}, "", 0)), told{kind: api.ErrName})
}

// What is done to one table isn't seen in another.
func TestByItself(t *testing.T) {
	one, two := needs(t, "a", true), needs(t, "a", true)
	goes(t, one, association("x"), "", 0)
	same(t, "State of the other one", two.State("a", site, 0), api.SitePending)
	same(t, "what is due of the other one", urls(two, 0), []string{appleURL})
	same(t, "Forget", two.Forget("a"), []api.Host{site})
	same(t, "State", one.State("a", site, 0), api.SiteGood)
	same(t, "Len of a new one", verify.New().Len(), 0)
}

// P1 and P2: all calls end, none panics, and a second run answers what the first one did.
func TestAnyArguments(t *testing.T) {
	texts := []string{"", "\xff", "x", "no-store", strings.Repeat("a", 1<<16)}
	numbers := []uint64{0, 1, 60, math.MaxInt64, math.MaxUint64, 7, math.MaxUint64 - 300}
	fetched := []api.Fetched{{}, {Err: api.Errno(-1)}, body("\xff"), association("x"), list(), list(in("https://y/"), in("https://z/")), body(fullApple), body(fullAndroid), body(strings.Repeat("[", 1<<16)), {Err: errors.New(""), Body: []byte("[]")}}
	run := func() []any {
		var everything []any
		keep := func(answers ...any) { everything = append(everything, answers...) }
		v := verify.New()
		for i, now := range numbers {
			for j, s := range texts {
				app, h := texts[(i+j)%len(texts)], api.Host{Kind: i - 2, Text: s}
				keep(v.Need(app, j%2 == 0, h, now), v.Len())
			}
			for k, f := range fetched {
				keep(v.Due(now))
				for j, s := range texts {
					app, h := texts[(i+j)%len(texts)], api.Host{Kind: i - 2, Text: s}
					keep(tells(v.Deliver(app, h, f, texts[(j+k)%len(texts)], now)), v.State(app, h, now))
					a, aOK := v.Assoc(app, h, now)
					l, lOK := v.Links(app, h, now)
					due, until, ok := v.Next(app, h)
					keep(a, aOK, l, lOK, due, until, ok)
				}
			}
			keep(all(v, now), v.Forget(texts[i%len(texts)]), v.Len())
		}
		return everything
	}
	if !reflect.DeepEqual(run(), run()) {
		t.Error("a second run answers something else")
	}
}
