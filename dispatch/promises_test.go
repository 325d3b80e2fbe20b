package dispatch_test

import (
	"math"
	"reflect"
	"slices"
	"strings"
	"testing"
	"unsafe"

	"waybill/api"
	"waybill/dispatch"
	"waybill/pick"
	"waybill/url"
)

// P29.4: just the apps that have a scheme open its URLs, whatever has happened to these.
func TestOtherSchemes(t *testing.T) {
	one, two, three := apple("one", "x.com"), android("two", "x.com"), apple("three")
	one.Schemes, three.Schemes = []string{"app", "b"}, []string{"app", "httpx"}
	two.Filters = append(two.Filters, filterOf([]string{"app", "c"}), filterOf([]string{"d"}, "x.com"))
	unopened := filterOf([]string{"b"})
	unopened.Categories = nil
	two.Filters = append(two.Filters, unopened)
	manifests := []api.Manifest{one, two, three}
	takes := map[string][]string{
		"app:x": {"one", "two", "three"}, "APP://x.com/": {"one", "two", "three"}, "app:": {"one", "two", "three"},
		"b:x": {"one"}, "B://y.com": {"one"}, "c:#": {"two"}, "httpx:": {"three"},
		"d://x.com": {"two"}, "d://X.com./a?b": {"two"}, "d://y.com": nil, "d:x.com": nil,
		"e:x": nil, "ap:x": nil, "mailto:a": nil, "app+b:": nil,
	}
	for _, order := range [][]int{{}, {0}, {1}, {2}, {0, 1}, {1, 0}, {2, 1}, {0, 1, 2}, {2, 1, 0}, {1, 2, 0}} {
		d := dispatch.New()
		var there []string
		for _, i := range order {
			install(d, manifests[i])
			there = append(there, manifests[i].ID)
		}
		asks := func(what string) {
			t.Helper()
			for s, all := range takes {
				var want []string
				for _, id := range there {
					if slices.Contains(all, id) {
						want = append(want, id)
					}
				}
				same(t, []any{order, what, s}, open(d, s), pick.Custom(want))
			}
		}
		asks("at first")
		for _, id := range there {
			toggle(d, id, "", false)
			toggle(d, id, "x.com", false)
		}
		deliver(d, right(1, "", speaks("one", "*")))
		tick(d, 1000)
		asks("behind switches, a document and ticks")
		if len(there) > 0 {
			uninstall(d, there[0])
			there = there[1:]
			asks("without the first one")
		}
	}
}

// comesToBe answers each fetch so many ticks behind its request, tick by tick, and gives the first tick, from now on, at which a check is good, and for how many ticks it wasn't behind that.
func comesToBe(t *testing.T, d *dispatch.Dispatcher, waiting []api.Request, after uint64, cache string, bodies map[string]string, ticks int) (first uint64, gaps int) {
	t.Helper()
	start, good := d.Now(), false
	since := map[uint64]uint64{}
	for range ticks {
		for len(waiting) > 0 && d.Now()-max(since[waiting[0].ID], start) >= after {
			r := waiting[0]
			more := comes(t, d, r.ID, cache, bodies[r.URL])
			waiting = append(waiting[1:], more...)
			for _, one := range more {
				since[one.ID] = d.Now()
			}
		}
		switch is := d.State("a", "x.com") == api.SiteGood; {
		case is && !good:
			first, good = d.Now()-start, true
		case !is && good:
			gaps++
		}
		more := tick(d, 1).Requests
		waiting = append(waiting, more...)
		for _, one := range more {
			since[one.ID] = d.Now()
		}
	}
	same(t, "whether it is good", good, true)
	return first, gaps
}

// fails lets all fetches fail until a check has failed so often, and gives those that wait then.
func fails(d *dispatch.Dispatcher, waiting []api.Request, often int) []api.Request {
	for range often {
		if len(waiting) == 0 {
			waiting = tick(d, checks(d)[0].Due-d.Now()).Requests
		}
		waiting = deliver(d, api.Response{ID: waiting[0].ID, Status: 500}).Requests
	}
	return waiting
}

// P29.5: a check comes to be good, however often it has failed, and stays so.
func TestComesToBe(t *testing.T) {
	root, more := "https://x.com/.well-known/assetlinks.json", "https://h/"
	var line []string
	bodies := map[string]string{
		"https://x.com/.well-known/apple-app-site-association": speaks("a", "*"),
		more + "a": list(grants("a")),
	}
	for n := range 10 {
		site := more + strings.Repeat("a", n+1)
		line = append(line, in(site))
		if n > 0 {
			bodies[site] = list()
		}
	}
	for _, c := range []struct {
		m      api.Manifest
		length int // of the chain
	}{{apple("a", "x.com"), 1}, {android("a", "x.com"), 2}, {android("a", "x.com"), 11}} {
		bodies[root] = list(line[:c.length-1]...)
		for _, often := range []int{0, 1, 3, 11, 12, 20} {
			for _, after := range []uint64{0, 1, 13, 119} {
				d := dispatch.New()
				waiting := fails(d, install(d, c.m).Requests, often)
				if often == 11 {
					// It is due already.
					waiting = tick(d, 1<<20).Requests
				}
				wait := uint64(0)
				if often > 0 {
					wait = checks(d)[0].Due - min(d.Now(), checks(d)[0].Due)
				}
				first, gaps := comesToBe(t, d, waiting, after, []string{"no-store", "max-age=600"}[often%2], bodies, int(wait)+4000)
				what := []any{c.m.ID, c.length, often, after}
				same(t, what, first <= 86400+11*after, true)
				same(t, what, first, wait+uint64(c.length)*after)
				if uint64(c.length)*after < 150 {
					same(t, what, gaps, 0)
				}
				opens(t, d, "https://x.com/", map[bool]string{true: "open:one a", false: "browser:unknown"}[d.State("a", "x.com") == api.SiteGood])
			}
		}
	}
}

// P29.6: URLs with one canonical form are answered alike; what isn't right is opened by none.
func TestCanonical(t *testing.T) {
	a, b := apple("a", "x.com", "*.x.com"), android("b", "x.com", "1.2.3.4")
	a.Schemes = []string{"app"}
	b.Filters[0].Paths = []api.FilterPath{{Kind: api.PathPrefix, Text: "/b"}, {Kind: api.PathExact, Text: "/~a"}}
	b.Filters = append(b.Filters, filterOf([]string{"app"}, "x.com"))
	d := with(t, a, b)
	comes(t, d, 1, "", `{"applinks":{"details":[{"appID":"`+team+`.a","components":[{"/":"/~a"},{"/":"/","?":"q=%25"},{"/":"/","#":"f"},{"/":"/a%2Fb"}]}]}}`)
	comes(t, d, 2, "", list(grants("b")))

	answers, many := map[api.URL]api.Answer{}, map[api.URL]int{}
	kinds := map[int]int{}
	for _, scheme := range []string{"https:", "HTTPS:", "hTTp:", "http:", "app:", "APP:", "htt ps:", ":", "", "%61pp:"} {
		for _, site := range []string{"//x.com", "//X.COM.", "//%78.com", "//x.com:443", "//x.com:", "//x.com:80", "//x.com:0443", "//q.x.com", "//1.2.3.4", "//0x1020304", "//u@x.com", "//@x.com", "//x..com", "//", "", "//x.com:65536", "//[::1]", "//[x.com]", "//x com"} {
			for _, rest := range []string{"", "/", "/~a", "/%7ea", "/%7Ea", "/%7E%61", "/b", "/%62", "/?q=%25", "?q=%25", "/?%71=%25", "#f", "/#%66", "/%", "/a%2fb", "/a%2Fb", "/#%", "/ a"} {
				s := scheme + site + rest
				got := open(d, s)
				kinds[got.Kind]++
				u, err := url.Parse(s)
				if err != nil {
					same(t, s, []any{got.Kind, len(got.Apps)}, []any{api.Reject, 0})
					continue
				}
				if known, ok := answers[u]; ok {
					same(t, s, got, known)
				}
				answers[u] = got
				many[u]++
				same(t, s+" as its canonical text", open(d, url.Text(u)).Reason == got.Reason || u.Host == api.Host{}, true)
			}
		}
	}
	for kind := api.Reject; kind <= api.Chooser; kind++ {
		same(t, []any{"how many answers of kind", kind}, kinds[kind] > 3, true)
	}
	twice := 0
	for _, n := range many {
		if n > 1 {
			twice++
		}
	}
	same(t, "whether many URLs have several forms", twice > 50, true)
	opens(t, d, "HTTPS://X.com.:443/%7ea", "choose:several a b")
	opens(t, d, "https://x.com/~a", "choose:several a b")
}

func share(a, b string) bool {
	return len(a) > 0 && len(b) > 0 && unsafe.StringData(a) == unsafe.StringData(b)
}

// lent gives a text that can be written over, and what does that.
func lent(s string) (text string, spoil func()) {
	b := []byte(s)
	return unsafe.String(&b[0], len(b)), func() {
		for i := range b {
			b[i] = '?'
		}
	}
}

// P29.7: what is handed in may be written over behind the call, texts, too.
func TestHandedInIsNotKept(t *testing.T) {
	d := dispatch.New()
	a, spoilA := lent("a")
	domain, spoilDomain := lent("x.com")
	bundle, spoilBundle := lent("a")
	scheme, spoilScheme := lent("app")
	m := api.Manifest{ID: a, Apple: true, App: api.AppID{Team: team, Bundle: bundle}, Domains: []api.HostPattern{{Name: domain}}, Schemes: []string{scheme}}
	install(d, m)
	pkg, spoilPkg := lent("com.b")
	site, spoilSite := lent("x.com")
	b := android("b", site)
	b.Package = pkg
	install(d, b)
	off, spoilOff := lent("a")
	host, spoilHost := lent("y.com")
	toggle(d, off, host, false)
	toggle(d, off, "", false)
	spoilOff()
	toggle(d, "a", "", true)
	same(t, "Off behind all switches", d.Off("a", "y.com"), false)
	off, spoilOff = lent("a")
	toggle(d, off, host, false)
	body := []byte(speaks("a", "*") + "more")
	r := right(1, "", "")
	r.Body = body[:len(body)-4]
	cache, spoilCache := lent("max-age=400")
	r.Cache = cache
	deliver(d, r)
	same(t, "the body", string(body), speaks("a", "*")+"more")
	text, spoilText := lent("https://x.com/")
	answer := open(d, text)
	same(t, "the manifest", m.Domains, []api.HostPattern{{Name: "x.com"}})

	for _, spoil := range []func(){spoilA, spoilDomain, spoilBundle, spoilScheme, spoilPkg, spoilSite, spoilOff, spoilHost, spoilCache, spoilText} {
		spoil()
	}
	clear(body)
	clear(m.Domains)
	clear(m.Schemes)
	clear(b.Prints)
	clear(b.Filters[0].Hosts)
	clear(b.Filters)
	same(t, "the answer", answer, api.Answer{Kind: api.OpenApp, Apps: []string{"a"}, Reason: api.WhyOne})
	same(t, "Apps", names(d), []string{"a", "b"})
	same(t, "Off", []bool{d.Off("a", "y.com"), d.Off("a", "x.com")}, []bool{true, false})
	same(t, "Checks", checks(d), []api.Check{
		{App: "a", Apple: true, Host: name("x.com"), State: api.SiteGood, Due: 200, Until: 400},
		{App: "b", Host: name("x.com"), State: api.SitePending},
	})
	comes(t, d, 2, "", list(grants("b")))
	opens(t, d, "https://x.com/q", "choose:several a b")
	opens(t, d, "app:", "open:one a")
	same(t, "what is asked for", tick(d, 200).Requests, []api.Request{asked(3, apple("a"), "x.com")})
}

// P29.7: what is handed in isn't changed, its spare room neither.
func TestHandedInStays(t *testing.T) {
	a, b := rowApps()[0], rowApps()[3]
	a.Domains = append(make([]api.HostPattern, 0, 9), a.Domains...)
	b.Filters = append(make([]api.Filter, 0, 9), b.Filters...)
	b.Prints = append(make([]api.Print, 0, 9), b.Prints...)
	d := with(t, a, b)
	tick(d, 500)
	uninstall(d, "a")
	same(t, "a", a.Domains[:9], append(slices.Clone(rowApps()[0].Domains), make([]api.HostPattern, 7)...))
	same(t, "b's prints", b.Prints[:9], append(slices.Clone(rowApps()[3].Prints), make([]api.Print, 8)...))
	same(t, "b's filters", b.Filters[:9], append(slices.Clone(rowApps()[3].Filters), make([]api.Filter, 7)...))
	same(t, "the rest of a", a.Schemes, rowApps()[0].Schemes)
}

// P29.7: answers may be written over, their spare room, too.
func TestAnswersAreNew(t *testing.T) {
	a, b := apple("an app", "x.com"), apple("another", "x.com")
	a.App.Bundle, b.App.Bundle = "a", "a"
	d := dispatch.New()
	out := install(d, a)
	out.Requests = append(out.Requests, install(d, b).Requests...)
	clear(out.Requests[:cap(out.Requests)])
	comes(t, d, 1, "", speaks("a", "*"))
	comes(t, d, 2, "", speaks("a", "*"))

	want := []string{"an app", "another"}
	const link = "https://x.com/"
	one, two := open(d, link), open(d, link)
	same(t, "whether texts are another answer's", []bool{share(one.Apps[0], two.Apps[0]), share(names(d)[0], one.Apps[0]), share(names(d)[0], names(d)[0]), share(names(d)[0], a.ID), share(one.Apps[0], a.ID)}, make([]bool, 5))
	clear(one.Apps[:cap(one.Apps)])
	same(t, "the other answer", two.Apps, want)

	list, _ := d.Candidates(link)
	others, _ := d.Candidates(link)
	same(t, "whether texts are another answer's", []bool{share(list[0].App, others[0].App), share(list[0].App, a.ID)}, make([]bool, 2))
	clear(list[:cap(list)])
	same(t, "the other candidates", []string{others[0].App, others[1].App}, want)

	lines, more := d.Explain(link), d.Explain(link)
	clear(lines[:cap(lines)])
	same(t, "the other lines", more[1:], []string{"an app: claims verified lets", "another: claims verified lets"})

	told := checks(d)
	same(t, "whether texts are another answer's", []bool{share(told[0].App, checks(d)[0].App), share(told[0].Host.Text, checks(d)[0].Host.Text), share(told[0].App, a.ID), share(told[0].Host.Text, a.Domains[0].Name)}, make([]bool, 4))

	asked := tick(d, api.PlainLife).Requests
	tick(d, api.MostPending)
	again := tick(d, api.FirstWait).Requests
	same(t, "how many are asked for", []int{len(asked), len(again)}, []int{2, 2})
	same(t, "whether texts are another answer's", []bool{share(asked[0].App, again[0].App), share(asked[0].URL, again[0].URL), share(asked[0].Host.Text, again[0].Host.Text), share(asked[0].App, a.ID)}, make([]bool, 4))

	for _, e := range []api.Event{{}, {Kind: api.EvToggle}, {Kind: api.EvDeliver}, {Kind: api.EvUninstall}, {Kind: api.EvInstall, Manifest: a}} {
		err := d.Do(e).Err.(*api.Fault)
		ahead := *err
		err.Kind, err.At = 99, 99
		same(t, e, *d.Do(e).Err.(*api.Fault), ahead)
	}
}

// What is done to one dispatcher isn't seen in another.
func TestByItself(t *testing.T) {
	one, two := with(t, apple("a", "x.com")), with(t, apple("a", "x.com"))
	ahead := stands(two)
	comes(t, one, 1, "", speaks("a", "*"))
	tick(one, 60)
	toggle(one, "a", "", false)
	install(one, android("b", "x.com"))
	uninstall(one, "a")
	same(t, "the other one", stands(two), ahead)
	comes(t, two, 1, "", speaks("a", "*"))
	opens(t, two, "https://x.com/", "open:one a")
	opens(t, one, "https://x.com/", "browser:unknown")
	same(t, "Apps of a new one", len(names(dispatch.New())), 0)
}

// plainErr makes an outcome one that can be held against another.
func plainErr(out api.Outcome) []any { return []any{tells(out.Err), out.Answer, out.Requests} }

// P1 and P2: all calls end, none panics, and a second run answers what the first one did.
func TestAnyArguments(t *testing.T) {
	long := strings.Repeat("a", 1<<16)
	texts := []string{"", "\xff", "a", "x.com", "https://x.com/", "app:x", "https://[::1]:0/%ff?#", "//", long, "https://" + long, "https://x.com/" + long[:8000]}
	manifests := append(rowApps(), api.Manifest{}, api.Manifest{Apple: true}, api.Manifest{ID: "e", Package: "com.x", Prints: make([]api.Print, 9)}, api.Manifest{ID: "\xff"}, apple("e", long), android("f", long, "*"), android("g", "*."))
	bodies := append(slices.Clone(rowBodies), "", "\xff", strings.Repeat("[", 1<<16), strings.Repeat(" ", 1<<20+1))
	run := func() []any {
		var everything []any
		keep := func(answers ...any) { everything = append(everything, answers...) }
		d := dispatch.New()
		for i := range 400 {
			s, other := texts[i%len(texts)], texts[(i/3)%len(texts)]
			r := right(uint64(i/4), other, bodies[i%len(bodies)])
			r.Status, r.Timeout = []int{200, 200, 0, -1, math.MaxInt, 303}[i%6], i%11 == 0
			for _, e := range []api.Event{
				{Kind: api.EvInstall, Manifest: manifests[i%len(manifests)]},
				{Kind: api.EvToggle, ID: string(rune('a' + i%6)), Host: s, On: i%4 == 0},
				{Kind: api.EvToggle, ID: s, Host: other},
				{Kind: api.EvDeliver, Response: r},
				{Kind: api.EvOpen, URL: s},
				{Kind: api.EvTick, N: []uint64{0, 1, 200, 1 << 32, math.MaxUint64}[i%5]},
				{Kind: []int{-1, 0, 7, math.MaxInt, math.MinInt}[i%5], ID: s},
			} {
				keep(plainErr(d.Do(e)))
			}
			if i%9 == 0 {
				keep(plainErr(d.Do(api.Event{Kind: api.EvUninstall, ID: string(rune('a' + i%8))})))
			}
			list, err := d.Candidates(s)
			keep(d.Now(), names(d), checks(d), d.Waiting(), list, tells(err), d.Explain(s), d.State(s, other), d.Off(s, other))
		}
		return everything
	}
	if !reflect.DeepEqual(run(), run()) {
		t.Error("a second run answers something else")
	}
}
