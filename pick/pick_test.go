package pick_test

import (
	"errors"
	"fmt"
	"math"
	"reflect"
	"slices"
	"strconv"
	"strings"
	"testing"
	"unsafe"

	"waybill/api"
	"waybill/pick"
	"waybill/url"
)

func same(t *testing.T, what any, got, want any) {
	t.Helper()
	if !reflect.DeepEqual(got, want) {
		t.Errorf("%.300v: got %+v, want %+v", what, got, want)
	}
}

// of gives a candidate: of the letters c, v, l, o each that is there holds.
func of(app, letters string) api.Candidate {
	has := func(letter string) bool { return strings.Contains(letters, letter) }
	return api.Candidate{App: app, Claims: has("c"), Verified: has("v"), Lets: has("l"), Off: has("o")}
}

// every gives the letters of all candidates that there are.
func every() []string {
	list := []string{""}
	for _, letter := range []string{"c", "v", "l", "o"} {
		for _, s := range slices.Clone(list) {
			list = append(list, s+letter)
		}
	}
	return list
}

// plain makes a list without elements nil: these are one.
func plain(a api.Answer) api.Answer {
	a.Apps = append([]string(nil), a.Apps...)
	return a
}

// P28.1: of all candidates one alone, whatever its name.
func TestReady(t *testing.T) {
	for _, app := range []string{"", "a", "\xff"} {
		for _, letters := range every() {
			same(t, letters, pick.Ready(of(app, letters)), letters == "cvl")
		}
	}
}

// P28.2: the candidates that are ready, in order.
func TestWebOpens(t *testing.T) {
	for _, c := range []struct {
		list []api.Candidate
		want api.Answer
	}{
		{[]api.Candidate{of("a", "cvl")}, api.Answer{Kind: api.OpenApp, Apps: []string{"a"}, Reason: api.WhyOne}},
		{[]api.Candidate{of("", "cvl")}, api.Answer{Kind: api.OpenApp, Apps: []string{""}, Reason: api.WhyOne}},
		{[]api.Candidate{of("a", "cvlo"), of("b", "cv"), of("c", "cvl"), of("d", "c"), of("e", "")}, api.Answer{Kind: api.OpenApp, Apps: []string{"c"}, Reason: api.WhyOne}},
		{[]api.Candidate{of("b", "cvl"), of("a", "cvl")}, api.Answer{Kind: api.Chooser, Apps: []string{"b", "a"}, Reason: api.WhySeveral}},
		{[]api.Candidate{of("a", "cvl"), of("a", "cvl")}, api.Answer{Kind: api.Chooser, Apps: []string{"a", "a"}, Reason: api.WhySeveral}},
		{[]api.Candidate{of("c", "cvl"), of("b", "cvlo"), of("\xff", "cvl"), of("", "vl"), of("a", "cvl")}, api.Answer{Kind: api.Chooser, Apps: []string{"c", "\xff", "a"}, Reason: api.WhySeveral}},
	} {
		same(t, c.list, pick.Web(c.list), c.want)
	}
	var list []api.Candidate
	var apps []string
	for n := range 5000 {
		app := strconv.Itoa(n)
		list = append(list, of(app, every()[n%16]))
		if every()[n%16] == "cvl" {
			apps = append(apps, app)
		}
	}
	same(t, "many", pick.Web(list), api.Answer{Kind: api.Chooser, Apps: apps, Reason: api.WhySeveral})
}

// P28.2: why there is none, whatever the order.
func TestWebBrowser(t *testing.T) {
	for _, c := range []struct {
		letters []string
		want    int
	}{
		{nil, api.WhyNobody},
		{[]string{""}, api.WhyNobody},
		{[]string{"vl", "vlo", "v", "l", "o", "lo"}, api.WhyNobody},
		{[]string{"c"}, api.WhyUnknown},
		{[]string{"cl", "clo", "co", "vlo"}, api.WhyUnknown},
		{[]string{"cv"}, api.WhyRules},
		{[]string{"cvo"}, api.WhyRules},
		{[]string{"clo", "vlo", "cv"}, api.WhyRules},
		{[]string{"cvlo"}, api.WhyOff},
		{[]string{"cv", "c", "", "cvlo"}, api.WhyOff},
	} {
		var list []api.Candidate
		for _, letters := range c.letters {
			list = append(list, of("a", letters))
		}
		want := api.Answer{Kind: api.Browser, Reason: c.want}
		same(t, c.letters, plain(pick.Web(list)), want)
		slices.Reverse(list)
		same(t, c.letters, plain(pick.Web(list)), want)
	}
	same(t, "a list without elements", plain(pick.Web([]api.Candidate{})), api.Answer{Kind: api.Browser, Reason: api.WhyNobody})
}

// web gives by the chapter's words what Web answers.
func web(list []api.Candidate) api.Answer {
	var ready []string
	off, rules, unknown := false, false, false
	for _, c := range list {
		if c.Claims && c.Verified && c.Lets && !c.Off {
			ready = append(ready, c.App)
		}
		off = off || c.Claims && c.Verified && c.Lets && c.Off
		rules = rules || c.Claims && c.Verified
		unknown = unknown || c.Claims
	}
	switch {
	case len(ready) == 1:
		return api.Answer{Kind: api.OpenApp, Apps: ready, Reason: api.WhyOne}
	case len(ready) > 1:
		return api.Answer{Kind: api.Chooser, Apps: ready, Reason: api.WhySeveral}
	case off:
		return api.Answer{Kind: api.Browser, Reason: api.WhyOff}
	case rules:
		return api.Answer{Kind: api.Browser, Reason: api.WhyRules}
	case unknown:
		return api.Answer{Kind: api.Browser, Reason: api.WhyUnknown}
	}
	return api.Answer{Kind: api.Browser, Reason: api.WhyNobody}
}

// P28.2: all lists of at most four candidates, against the chapter's words.
func TestWebOfAll(t *testing.T) {
	lists := [][]api.Candidate{nil}
	for from, at := 0, 0; at < 4; at++ {
		to := len(lists)
		for ; from < to; from++ {
			for n, letters := range every() {
				c := of(strconv.Itoa(at)+"."+strconv.Itoa(n), letters)
				lists = append(lists, append(slices.Clone(lists[from]), c))
			}
		}
	}
	same(t, "how many there are", len(lists), 1+16+256+4096+65536)
	for _, list := range lists {
		if got := plain(pick.Web(list)); !reflect.DeepEqual(got, web(list)) {
			t.Fatalf("%+v: got %+v, want %+v", list, got, web(list))
		}
	}
}

// P28.3
func TestCustom(t *testing.T) {
	none := api.Answer{Kind: api.Reject, Reason: api.WhyNobody}
	same(t, "nil", plain(pick.Custom(nil)), none)
	same(t, "none", plain(pick.Custom([]string{})), none)
	for _, app := range []string{"a", "", " ", "\xff", strings.Repeat("a", 1<<16)} {
		same(t, app, pick.Custom([]string{app}), api.Answer{Kind: api.OpenApp, Apps: []string{app}, Reason: api.WhyOne})
	}
	var many []string
	for n := range 5000 {
		many = append(many, strconv.Itoa(n*7919%5000))
	}
	for _, list := range [][]string{{"a", "b"}, {"b", "a"}, {"a", "a"}, {"", ""}, {"c", "", "\xff", "a", "c"}, many} {
		same(t, list, pick.Custom(list), api.Answer{Kind: api.Chooser, Apps: list, Reason: api.WhySeveral})
	}
}

// nested gives an error of a kind that came, over so many others, from another one.
func nested(kind api.Errno, depth int, inner error) error {
	for range depth {
		inner = api.Wrap(kind, 7, inner)
	}
	return inner
}

// P28.4: each kind by itself, with others within, and within others.
func TestRefused(t *testing.T) {
	whys := map[api.Errno]int{api.ErrUser: api.WhyUser, api.ErrHost: api.WhyHost}
	others := []api.Errno{
		0, -1, math.MaxInt, math.MinInt, api.ErrArg, api.ErrShort, api.ErrForm, api.ErrUTF, api.ErrDeep, api.ErrLong, api.ErrMany, api.ErrRange,
		api.ErrScheme, api.ErrPort, api.ErrLabel, api.ErrName, api.ErrThere, api.ErrKind, api.ErrDoc, api.ErrStatus, api.ErrRedirect, api.ErrType, api.ErrTime, api.ErrState,
	}
	for _, other := range others {
		whys[other] = api.WhyURL
	}
	for kind, why := range whys {
		want := api.Answer{Kind: api.Reject, Reason: why}
		for _, other := range others {
			for what, err := range map[string]error{
				"a fault":          api.Fail(kind, 3),
				"a number":         kind,
				"the outer one":    api.Wrap(kind, 0, api.Fail(other, 1)),
				"the inner one":    api.Wrap(other, 0, api.Fail(kind, 1)),
				"a number within":  api.Wrap(other, 0, kind),
				"one in the midst": api.Wrap(other, 0, api.Wrap(kind, -1, api.Fail(other, 1))),
				"a deep one":       nested(other, 50, api.Fail(kind, 1)),
				"another's":        fmt.Errorf("wrapped: %w", api.Fail(kind, 1)),
				"one of several":   errors.Join(errors.New("x"), api.Fail(other, 0), api.Fail(kind, 0)),
			} {
				same(t, []any{kind, other, what}, plain(pick.Refused(err)), want)
			}
		}
	}
	same(t, "the deepest one", pick.Refused(nested(api.ErrForm, 1<<16-1, api.Fail(api.ErrUser, 0))).Reason, api.WhyUser)
}

// P28.4: a user's name counts ahead of a host, wherever they stand.
func TestRefusedOrder(t *testing.T) {
	user, site := api.Fail(api.ErrUser, 0), api.Fail(api.ErrHost, 0)
	for _, err := range []error{
		api.Wrap(api.ErrUser, 0, site), api.Wrap(api.ErrHost, 0, user), api.Wrap(api.ErrHost, 0, api.ErrUser),
		errors.Join(user, site), errors.Join(site, user), nested(api.ErrHost, 9, user), nested(api.ErrUser, 9, site),
	} {
		same(t, err, plain(pick.Refused(err)), api.Answer{Kind: api.Reject, Reason: api.WhyUser})
	}
}

// broken is an error that can't be asked.
type broken struct{}

func (broken) Error() string   { return "broken" }
func (broken) Is(error) bool   { panic("asked") }
func (b broken) Unwrap() error { return b }

// P28.4: what isn't of a kind, or can't be asked for it.
func TestRefusedWrong(t *testing.T) {
	var none *api.Fault
	for _, c := range []struct {
		err  error
		want int
	}{
		{nil, api.WhyURL},
		{none, api.WhyURL},
		{broken{}, api.WhyURL},
		{errors.New("errno 21"), api.WhyURL},
		{fmt.Errorf("told: %v", api.Fail(api.ErrUser, 0)), api.WhyURL},
		{api.Wrap(api.ErrForm, 0, nil), api.WhyURL},
		{api.Wrap(api.ErrForm, 0, none), api.WhyURL},
		{api.Wrap(api.ErrUser, 0, none), api.WhyUser},
		{api.Wrap(api.ErrHost, 0, none), api.WhyHost},
		{api.Wrap(api.ErrHost, 0, broken{}), api.WhyHost},
	} {
		same(t, reflect.TypeOf(c.err), plain(pick.Refused(c.err)), api.Answer{Kind: api.Reject, Reason: c.want})
	}
}

// P28.4: the errors of URLs.
func TestRefusedURLs(t *testing.T) {
	for s, want := range map[string]string{
		"https://u@x.com/": "user", "https://u:p@x.com/": "user", "https://@x.com/": "user",
		"https://[::1/": "host", "https://x_y.com/": "host", "https:///": "host", "https://1.2.3.256/": "host",
		"": "url", "x": "url", "1:x": "url", "https://x.com:65536/": "url", "https://x.com/\xff": "url", "https://x.com/%zz": "url", strings.Repeat("a", 8193): "url",
	} {
		if _, err := url.Parse(s); err != nil {
			same(t, s, pick.Words(pick.Refused(err)), "reject:"+want)
		} else {
			t.Errorf("%q is right", s)
		}
	}
}

// P28.5: all kinds with all reasons, and numbers that are none.
func TestWords(t *testing.T) {
	kinds := map[int]string{1: "reject", 2: "browser", 3: "open", 4: "choose"}
	reasons := map[int]string{1: "url", 2: "user", 3: "host", 4: "nobody", 5: "unknown", 6: "rules", 7: "off", 8: "one", 9: "several"}
	for _, none := range []int{0, -1, 10, 11, 255, 257, 1 << 32, 1<<32 + 1, math.MaxInt, math.MinInt, math.MinInt + 1} {
		kinds[none], reasons[none] = "?", "?"
	}
	for kind := 5; kind <= 9; kind++ {
		kinds[kind] = "?"
	}
	for kind, k := range kinds {
		for reason, r := range reasons {
			a := api.Answer{Kind: kind, Reason: reason}
			same(t, a, pick.Words(a), k+":"+r)
			a.Apps = []string{}
			same(t, a, pick.Words(a), k+":"+r)
			a.Apps = []string{"b", "", "a b", "\xff:?", "b"}
			same(t, a, pick.Words(a), k+":"+r+" b  a b \xff:? b")
		}
	}
	same(t, "an app without a name", pick.Words(api.Answer{Apps: []string{""}}), "?:? ")
	many := slices.Repeat([]string{"app"}, 1<<16)
	same(t, "many", pick.Words(api.Answer{Kind: 4, Apps: many, Reason: 9}), "choose:several"+strings.Repeat(" app", 1<<16))
}

// P28.6: what is handed in stays, and what is behind it.
func TestHandedInStays(t *testing.T) {
	list := []api.Candidate{of("a", "cvl"), of("b", "cvlo"), of("c", "cvl"), of("d", "cv"), of("e", "cvl")}
	listAhead := slices.Clone(list)
	apps := []string{"a", "b", "c", "d"}
	appsAhead := slices.Clone(apps)
	for n := range list {
		pick.Web(list[:n])
		same(t, "the candidates", list, listAhead)
	}
	for n := range apps {
		pick.Custom(apps[:n])
		pick.Words(api.Answer{Kind: 4, Apps: apps[:n], Reason: 9})
		same(t, "the apps", apps, appsAhead)
	}
	inner := api.Fault{Kind: api.ErrUser, At: 4}
	outer := api.Fault{Kind: api.ErrHost, At: 5, Inner: &inner}
	pick.Refused(&outer)
	same(t, "the outer fault", outer, api.Fault{Kind: api.ErrHost, At: 5, Inner: &inner})
	same(t, "the inner fault", inner, api.Fault{Kind: api.ErrUser, At: 4})
}

// shared tells whether two lists have memory in common, in their room or in their texts.
func shared(a, b []string) bool {
	for _, one := range a[:cap(a)] {
		for _, other := range b[:cap(b)] {
			if len(one) > 0 && len(other) > 0 && unsafe.StringData(one) == unsafe.StringData(other) {
				return true
			}
		}
	}
	return cap(a) > 0 && cap(b) > 0 && unsafe.SliceData(a) == unsafe.SliceData(b)
}

// P28.6: what is answered is new memory.
func TestAnswersAreNew(t *testing.T) {
	for n := 1; n < 5; n++ {
		apps := []string{"a", "b", "c", "d", "e"}[:n]
		var list []api.Candidate
		for _, app := range apps {
			list = append(list, of(app, "cvl"))
		}
		custom, again, ofWeb, webAgain := pick.Custom(apps), pick.Custom(apps), pick.Web(list), pick.Web(list)
		lists := [][]string{apps, custom.Apps, again.Apps, ofWeb.Apps, webAgain.Apps}
		for i := range lists {
			for j := range i {
				same(t, []any{n, "lists", i, j}, shared(lists[i], lists[j]), false)
			}
		}
		want := slices.Clone(apps)
		clear(custom.Apps[:cap(custom.Apps)])
		clear(ofWeb.Apps[:cap(ofWeb.Apps)])
		clear(apps[:cap(apps)])
		clear(list)
		same(t, "Custom's second answer", again.Apps, want)
		same(t, "Web's second answer", webAgain.Apps, want)
	}
	for _, a := range []api.Answer{{}, {Kind: 1, Reason: 1}, {Kind: 3, Apps: []string{"a"}, Reason: 8}} {
		one, two := pick.Words(a), pick.Words(a)
		same(t, a, unsafe.StringData(one) == unsafe.StringData(two), false)
	}
}

// P28.6: bytes that an app's name was laid over may be written over behind the call.
func TestNotKept(t *testing.T) {
	b := []byte("app")
	name := unsafe.String(&b[0], len(b))
	custom, ofWeb := pick.Custom([]string{name, name}), pick.Web([]api.Candidate{of(name, "cvl")})
	words := pick.Words(api.Answer{Kind: 3, Apps: []string{name}, Reason: 8})
	copy(b, "xyz")
	same(t, "Custom", custom.Apps, []string{"app", "app"})
	same(t, "Web", ofWeb.Apps, []string{"app"})
	same(t, "Words", words, "open:one app")
}

// P1 and P2: all calls end, none panics, and a second run answers what the first one did.
func TestAnyArguments(t *testing.T) {
	texts := []string{"", "\xff", "x", " :?", strings.Repeat("a", 1<<16)}
	numbers := []int{0, 1, 4, 5, 9, 10, -1, math.MaxInt, math.MinInt, math.MaxInt32, math.MinInt32}
	run := func() []any {
		var all []any
		keep := func(answers ...any) { all = append(all, answers...) }
		for i, n := range numbers {
			for j, letters := range every() {
				list := []api.Candidate{of(texts[i%len(texts)], letters), of(texts[j%len(texts)], every()[i])}
				keep(pick.Ready(list[0]), pick.Web(list[:j%3]), pick.Custom(texts[:j%len(texts)]))
				keep(pick.Words(api.Answer{Kind: n, Apps: texts[:i%len(texts)], Reason: numbers[j%len(numbers)]}))
			}
			keep(pick.Refused(api.Fail(api.Errno(n), n)), pick.Refused(api.Wrap(api.ErrForm, n, api.Errno(n))), pick.Refused(nil))
		}
		return all
	}
	if !reflect.DeepEqual(run(), run()) {
		t.Error("a second run answers something else")
	}
}

// The chapter's example.
func TestExample(t *testing.T) {
	a := pick.Custom([]string{"a", "b"})
	same(t, "Custom", a, api.Answer{Kind: api.Chooser, Apps: []string{"a", "b"}, Reason: api.WhySeveral})
	same(t, "Words", pick.Words(a), "choose:several a b")
}
