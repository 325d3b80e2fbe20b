package dispatch_test

import (
	"strings"
	"testing"

	"waybill/api"
	"waybill/dispatch"
	"waybill/pick"
)

// candidate gives one of whose truths those stand in words.
func candidate(app, words string) api.Candidate {
	has := func(word string) bool { return strings.Contains(" "+words+" ", " "+word+" ") }
	return api.Candidate{App: app, Claims: has("claims"), Verified: has("verified"), Lets: has("lets"), Off: has("off")}
}

// explained asks for the candidates for a URL, told in words, and for what hangs on them.
func explained(t *testing.T, d *dispatch.Dispatcher, s string, lines ...string) {
	t.Helper()
	var want []api.Candidate
	for _, line := range lines {
		app, words, _ := strings.Cut(line, ":")
		want = append(want, candidate(app, words))
	}
	list, err := d.Candidates(s)
	same(t, s, []any{append([]api.Candidate(nil), list...), err}, []any{want, nil})
	answer := pick.Web(want)
	same(t, s, open(d, s), answer)
	same(t, s, d.Explain(s), append([]string{pick.Words(answer)}, lines...))
}

// P29.1: of each app one, in the order in which they were installed, whatever there is for it.
func TestCandidatesOrder(t *testing.T) {
	d := with(t, android("c", "x.com"), apple("a", "y.com"), apple("b"), android("d"))
	explained(t, d, "https://x.com/", "c: claims lets", "a:", "b:", "d:")
	explained(t, d, "https://y.com/", "c:", "a: claims", "b:", "d:")
	uninstall(d, "c")
	toggle(d, "b", "", false)
	install(d, android("c", "y.com"))
	explained(t, d, "http://y.com/", "a: claims", "b: off", "d:", "c: claims lets")
	comes(t, d, 3, "", list(grants("c")))
	explained(t, d, "http://y.com/", "a: claims", "b: off", "d:", "c: claims verified lets")
}

// P29.1: an app of Apple's is verified by a document that names it, and lets what a rule of it lets, by https alone.
func TestCandidatesApple(t *testing.T) {
	const whole = `"components":[{"/":"/no","exclude":true},{"/":"/a","?":"q=1"},{"/":"/a","#":"f"},{"/":"/b*"}]`
	for body, want := range map[string][5]string{
		speaks("a", "*"):       {"claims verified lets", "claims verified lets", "claims verified lets", "claims verified lets", "claims verified"},
		speaks("a", "/b1"):     {"claims verified", "claims verified", "claims verified", "claims verified lets", "claims verified"},
		speaks("a", "NOT *"):   {"claims verified", "claims verified", "claims verified", "claims verified", "claims verified"},
		speaks("b", "*"):       {"claims", "claims", "claims", "claims", "claims"},
		`{"applinks":{}}`:      {"claims", "claims", "claims", "claims", "claims"},
		`{}`:                   {"claims", "claims", "claims", "claims", "claims"},
		speaks("a", "*") + "x": {"claims", "claims", "claims", "claims", "claims"},
		list(grants("a")):      {"claims", "claims", "claims", "claims", "claims"},
		`{"applinks":{"details":[{"appIDs":["` + team + `.b","` + team + `.a"],` + whole + `}]}}`:                                                      {"claims verified", "claims verified lets", "claims verified lets", "claims verified lets", "claims verified"},
		`{"applinks":{"details":[{"appID":"` + team + `.a"},{"appID":"` + team + `.b","paths":["*"]},{"appID":"` + team + `.a","paths":["/no"]}]}}`:    {"claims verified lets", "claims verified", "claims verified", "claims verified", "claims verified"},
		`{"applinks":{"substitutionVariables":{"v":["b1","no"]},"details":[{"appID":"` + team + `.a","components":[{"/":"/$(v)"}]}]}}`:                 {"claims verified lets", "claims verified", "claims verified", "claims verified lets", "claims verified"},
		`{"applinks":{"details":[{"appID":"ABCDE12346.a","paths":["*"]}]}}`:                                                                            {"claims", "claims", "claims", "claims", "claims"},
		`{"applinks":{"details":[{"appID":"` + team + `.a","paths":["/x"]},{"appID":"` + team + `.a","paths":["NOT /no"]}]}}`:                          {"claims verified", "claims verified", "claims verified", "claims verified", "claims verified"},
		`{"applinks":{"details":[{"appID":"` + team + `.a","components":[{"/":"/B1","caseSensitive":false},{"?":{"q":"?"}}]}]}}`:                       {"claims verified", "claims verified lets", "claims verified", "claims verified lets", "claims verified"},
		`{"applinks":{"details":{"` + team + `.a":{"paths":["/a","/b1","NOT /a"]}}}}`:                                                                  {"claims verified", "claims verified lets", "claims verified lets", "claims verified lets", "claims verified"},
		`{"applinks":{"details":[{"appID":"` + team + `.a","components":[{"/":"/a*","exclude":true,"comment":"none of these"},{"/":"*","#":"f"}]}]}}`:  {"claims verified", "claims verified", "claims verified", "claims verified", "claims verified"},
		`{"applinks":{"details":[{"appID":"` + team + `.a","components":[{"/":"/a","?":"q=2","exclude":true},{"/":"/a","?":"q=1"},{"/":"/no"}]}]}}`:    {"claims verified lets", "claims verified lets", "claims verified", "claims verified", "claims verified"},
		`{"applinks":{"details":[{"appID":"` + team + `.a","components":[{"/":"/%6eo","percentEncoded":false},{"/":"/b1","percentEncoded":false}]}]}}`: {"claims verified", "claims verified", "claims verified", "claims verified lets", "claims verified"},
	} {
		d := with(t, apple("a", "x.com"))
		comes(t, d, 1, "", body)
		for i, s := range []string{"https://x.com/no", "https://x.com/a?q=1", "https://x.com:8443/a#f", "https://x.com/b1", "http://x.com/b1"} {
			explained(t, d, s, "a: "+want[i])
		}
		explained(t, d, "https://y.com/a", "a:")
		explained(t, d, "https://q.x.com/a", "a:")
		explained(t, d, "https://1.2.3.4/a", "a:")
	}
}

// P29.1: each of an app's proofs is looked at: one that names it verifies it, one that lets the URL lets it.
func TestCandidatesProofs(t *testing.T) {
	const none = `{"applinks":{}}`
	for _, c := range []struct{ one, two, want string }{
		{"", "", " claims"},
		{"?", none, " claims"},
		{none, speaks("b", "*"), " claims"},
		{none, speaks("a", "*"), " claims verified lets"},
		{"", speaks("a", "*"), " claims verified lets"},
		{"?", speaks("a", "NOT *"), " claims verified"},
		{speaks("a", "*"), speaks("b", "*"), " claims verified lets"},
		{speaks("a", "NOT *"), speaks("a", "*"), " claims verified lets"},
		{speaks("a", "*"), speaks("a", "NOT *"), " claims verified lets"},
		{speaks("a", "/b"), speaks("a", "/c"), " claims verified"},
		{speaks("a", "/b"), speaks("b", "*"), " claims verified"},
		{speaks("a", "/c"), none, " claims verified"},
	} {
		d := with(t, apple("a", "q.x.com", "*.x.com", "y.com", "com", "*.q.x.com"))
		for i, body := range []string{c.one, c.two} {
			if body != "" {
				comes(t, d, uint64(i+1), "", body)
			}
		}
		// Those of hosts that are no proofs don't count.
		comes(t, d, 3, "", speaks("a", "*"))
		comes(t, d, 4, "", speaks("a", "*"))
		explained(t, d, "https://q.x.com/a", "a:"+c.want)
	}
}

// P29.1: of a wild domain's names beneath it the document is that of its name.
func TestCandidatesWild(t *testing.T) {
	d := with(t, apple("a", "*.x.com"), android("b", "*.x.com"))
	comes(t, d, 1, "", speaks("a", "*"))
	comes(t, d, 2, "", list(grants("b")))
	for _, s := range []string{"https://q.x.com/", "https://p.q.x.com/"} {
		explained(t, d, s, "a: claims verified lets", "b: claims verified lets")
	}
	for _, s := range []string{"https://x.com/", "https://qx.com/", "https://com/"} {
		explained(t, d, s, "a:", "b:")
	}
}

// P29.1: an app of Android's is verified by a statement of its package and one of its prints.
func TestCandidatesAndroid(t *testing.T) {
	const handle = api.HandleURLs
	one, two, three := api.Print{1}, api.Print{31: 2}, api.Print{3}
	b := android("b", "x.com")
	b.Prints = []api.Print{one, two}
	for _, c := range []struct{ body, want string }{
		{list(), " claims lets"},
		{"?", " claims lets"},
		{speaks("b", "*"), " claims lets"},
		{list(granted("com.b", handle, one)), " claims verified lets"},
		{list(granted("com.b", handle, two)), " claims verified lets"},
		{list(granted("com.b", handle, three)), " claims lets"},
		{list(granted("com.b", handle, three), granted("com.b", handle, two)), " claims verified lets"},
		{list(granted("com.c", handle, one)), " claims lets"},
		{list(granted("com.B", handle, one)), " claims lets"},
		{list(granted("com.b", "delegate_permission/common.get_login_creds", one)), " claims lets"},
		{list(`{"relation":["` + handle + `"],"target":{"namespace":"web","site":"https://x.com"}}`), " claims lets"},
	} {
		d := with(t, b)
		comes(t, d, 1, "", c.body)
		for _, s := range []string{"https://x.com/", "http://x.com:99/a?b#c"} {
			explained(t, d, s, "b:"+c.want)
		}
	}
}

// P29.1: what an app of Android's lets its filters say, verified or not.
func TestCandidatesFilters(t *testing.T) {
	b := android("b", "x.com")
	b.Filters[0].Paths = []api.FilterPath{{Kind: api.PathPrefix, Text: "/a"}}
	// A filter that isn't verified claims nothing, and lets nothing.
	b.Filters = append(b.Filters, filterOf([]string{"https"}, "x.com", "y.com"))
	http := filterOf([]string{"http"}, "z.com")
	http.AutoVerify = true
	b.Filters = append(b.Filters, http)
	d := with(t, b)
	explained(t, d, "https://x.com/a1", "b: claims lets")
	comes(t, d, 1, "", list(grants("b")))
	comes(t, d, 2, "", list(grants("b")))
	explained(t, d, "https://x.com/a1", "b: claims verified lets")
	explained(t, d, "https://x.com/%61", "b: claims verified lets")
	explained(t, d, "https://x.com/b", "b: claims verified")
	explained(t, d, "https://y.com/a", "b:")
	explained(t, d, "http://z.com/q", "b: claims verified lets")
	explained(t, d, "https://z.com/q", "b: claims verified")
}

// P29.1: for Android each proof is looked at, too.
func TestCandidatesAndroidProofs(t *testing.T) {
	for _, bodies := range [][2]string{{list(grants("b")), ""}, {"", list(grants("b"))}, {list(grants("c")), list(grants("b"))}, {list(grants("b")), "?"}} {
		d := with(t, android("b", "q.x.com", "*.x.com"))
		for i, body := range bodies {
			if body != "" {
				comes(t, d, uint64(i+1), "", body)
			}
		}
		explained(t, d, "https://q.x.com/", "b: claims verified lets")
	}
	d := with(t, android("b", "q.x.com", "*.x.com"))
	comes(t, d, 1, "", list(grants("c")))
	comes(t, d, 2, "", "?")
	explained(t, d, "https://q.x.com/", "b: claims lets")
}

// P29.1: what a manifest tells of the other kind isn't looked at.
func TestCandidatesBothKinds(t *testing.T) {
	a, b := apple("a", "x.com"), android("b", "x.com")
	a.Package, a.Prints, a.Filters = b.Package, b.Prints, b.Filters
	b.App, b.Domains, b.Schemes = a.App, append([]api.HostPattern{pattern("y.com")}, a.Domains...), []string{"app"}
	d := dispatch.New()
	same(t, "a", install(d, a), api.Outcome{Requests: []api.Request{asked(1, a, "x.com")}})
	same(t, "b", install(d, b), api.Outcome{Requests: []api.Request{asked(2, b, "x.com")}})
	comes(t, d, 1, "", speaks("a", "/a"))
	comes(t, d, 2, "", list(grants("b")))
	explained(t, d, "https://x.com/b", "a: claims verified", "b: claims verified lets")
	explained(t, d, "https://x.com/a", "a: claims verified lets", "b: claims verified lets")
	explained(t, d, "https://y.com/", "a:", "b:")
	opens(t, d, "app:x", "reject:nobody")
}

// P29.1: a document may be used up to its until, also while a new one is fetched and fails.
func TestCandidatesLife(t *testing.T) {
	for _, isApple := range []bool{true, false} {
		m, body := apple("a", "x.com"), speaks("a", "*")
		if !isApple {
			m, body = android("a", "x.com"), list(grants("a"))
		}
		ahead, behind := "a: claims verified lets", "a: claims"
		if !isApple {
			behind = "a: claims lets"
		}
		d := with(t, m)
		tick(d, 10)
		comes(t, d, 1, "max-age=400", body)
		explained(t, d, "https://x.com/", ahead)
		same(t, "at 210", tick(d, 200).Requests, []api.Request{asked(2, m, "x.com")})
		explained(t, d, "https://x.com/", ahead)
		deliver(d, api.Response{ID: 2, Status: 500})
		tick(d, 199)
		explained(t, d, "https://x.com/", ahead)
		tick(d, 1)
		explained(t, d, "https://x.com/", behind)
		same(t, "Waiting", d.Waiting(), 1)
		comes(t, d, 3, "max-age=400", body)
		explained(t, d, "https://x.com/", ahead)
		// A new document stands in the place of the one that was known.
		tick(d, 200)
		comes(t, d, 4, "", map[bool]string{true: `{"applinks":{}}`, false: "[]"}[isApple])
		explained(t, d, "https://x.com/", behind)
	}
}

// P29.1: an app is off for all hosts, or for the URL's host alone.
func TestCandidatesOff(t *testing.T) {
	d := with(t, apple("a", "x.com", "*.x.com"), android("b", "x.com", "*.x.com", "1.2.3.4"))
	for id, body := range []string{speaks("a", "*"), list(grants("b"))} {
		comes(t, d, uint64(id+1), "", body)
	}
	toggle(d, "a", "x.com", false)
	explained(t, d, "https://X.com./", "a: claims verified lets off", "b: claims verified lets")
	explained(t, d, "https://q.x.com/", "a: claims verified lets", "b: claims verified lets")
	explained(t, d, "https://y.com/", "a:", "b:")
	toggle(d, "b", "Q.X.COM", false)
	explained(t, d, "https://x.com/", "a: claims verified lets off", "b: claims verified lets")
	explained(t, d, "https://q.x.com/", "a: claims verified lets", "b: claims verified lets off")
	toggle(d, "b", "", false)
	explained(t, d, "https://x.com/", "a: claims verified lets off", "b: claims verified lets off")
	explained(t, d, "https://1.2.3.4/", "a:", "b: claims lets off")
	explained(t, d, "https://[::1]/", "a:", "b: off")
	toggle(d, "b", "", true)
	explained(t, d, "https://q.x.com/", "a: claims verified lets", "b: claims verified lets")
	explained(t, d, "https://1.2.3.4/", "a:", "b: claims lets")
}

// P29.1: the first line of an Explain is what EvOpen would be answered with; of other schemes it stands alone.
func TestExplain(t *testing.T) {
	a, b := apple("a b", "x.com"), apple("ü", "x.com")
	a.App.Bundle, b.App.Bundle = "a", "a"
	a.Schemes, b.Schemes = []string{"app"}, []string{"app", "b"}
	d := with(t, a, b)
	comes(t, d, 1, "", speaks("a", "*"))
	same(t, "one", d.Explain("https://x.com/"), []string{"open:one a b", "a b: claims verified lets", "ü: claims"})
	comes(t, d, 2, "", speaks("a", "*"))
	same(t, "both", d.Explain("https://x.com/"), []string{"choose:several a b ü", "a b: claims verified lets", "ü: claims verified lets"})
	toggle(d, "ü", "", false)
	same(t, "one is off", d.Explain("https://x.com/"), []string{"open:one a b", "a b: claims verified lets", "ü: claims verified lets off"})
	// Switches are of web schemes.
	same(t, "another scheme", d.Explain("app:x"), []string{"choose:several a b ü"})
	same(t, "one has it", d.Explain("B://x.com/?"), []string{"open:one ü"})
	same(t, "none has it", d.Explain("c:"), []string{"reject:nobody"})
	same(t, "wrong", d.Explain("c"), []string{"reject:url"})
	ahead := stands(d)
	d.Explain("https://x.com/")
	d.Candidates("https://x.com/")
	same(t, "what stands behind it", stands(d), ahead)
}
