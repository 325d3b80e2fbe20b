package route_test

import (
	"reflect"
	"slices"
	"strconv"
	"strings"
	"testing"

	"waybill/aasa"
	"waybill/api"
	"waybill/query"
	"waybill/route"
	"waybill/subst"
	"waybill/url"
)

const team = "ABCDE12345"

var (
	appA = api.AppID{Team: team, Bundle: "a"}
	appB = api.AppID{Team: team, Bundle: "b"}
	appC = api.AppID{Team: "0123456789", Bundle: "a"}

	// food has a second variable of its name, which doesn't count, nor does that which has the name of one that there is always.
	food = []api.Var{{Name: "food", Values: []string{"pizza", "taco*"}}, {Name: "none"}, {Name: "food", Values: []string{"soup"}}, {Name: "digit", Values: []string{"x"}}, {Name: "much", Values: []string{long, "m"}}}

	long = strings.Repeat("*", 1025)

	// wrongTexts are no characters' bytes.
	wrongTexts = []string{"\xff", "\x80", "a\xc0\x80", "\xe2\x82", "\xed\xa0\x80", "\xf4\x90\x80\x80"}
)

func same(t *testing.T, what string, got, want any) {
	t.Helper()
	if !reflect.DeepEqual(got, want) {
		t.Errorf("%.300q: got %#v, want %#v", what, got, want)
	}
}

// at gives the URL of a text behind its host.
func at(t *testing.T, s string) api.URL {
	t.Helper()
	u, err := url.Parse("https://h" + s)
	if err != nil {
		t.Fatalf("%.300q: %v", s, err)
	}
	return u
}

func path(pattern string) api.Rule     { return api.Rule{Path: pattern, HasPath: true} }
func asks(pattern string) api.Rule     { return api.Rule{Query: pattern, HasQuery: true} }
func fragment(pattern string) api.Rule { return api.Rule{Fragment: pattern, HasFragment: true} }
func item(name, value string) api.Item { return api.Item{Name: name, Value: value, Has: true} }
func wants(list ...api.Item) api.Rule  { return api.Rule{Items: list} }

// folded and decoded give a rule as it is with these flags.
func folded(x api.Rule) api.Rule  { x.Fold = true; return x }
func decoded(x api.Rule) api.Rule { x.Decoded = true; return x }

// check is a rule, and what a URL is behind its host.
type check struct {
	x    api.Rule
	s    string
	want bool
}

func matches(t *testing.T, list []check) {
	t.Helper()
	for _, c := range list {
		if got := route.Matches(c.x, food, at(t, c.s)); got != c.want {
			t.Errorf("Matches of %.300q, %#v: got %v", c.s, c.x, got)
		}
	}
}

// P21.1: a part that isn't wanted isn't looked at.
func TestNothingWanted(t *testing.T) {
	for _, s := range []string{"", "/", "/x?y#z", "/%ff?%ff#%ff", "?%25&&=", "#"} {
		for _, x := range []api.Rule{{}, {Path: "x", Query: "x", Fragment: "x"}, {Path: long, Query: "$(", Fragment: "\xff"}, {Items: []api.Item{}}, {Exclude: true}} {
			matches(t, []check{{x, s, true}, {folded(x), s, true}, {decoded(x), s, true}, {folded(decoded(x)), s, true}})
		}
	}
}

// P21.1: the path.
func TestPath(t *testing.T) {
	matches(t, []check{
		{path("/"), "", true}, {path("/"), "/", true}, {path(""), "/", false}, {path("*"), "/", true}, {path("/?"), "/", false}, {path("/?*"), "/a", true},
		{path("/a/*"), "/a/b", true}, {path("/a/*"), "/a/", true}, {path("/a/*"), "/a", false}, {path("/a"), "/a/b", false}, {path("a"), "/a", false}, {path("/a*b"), "/axx/xb", true}, {path("NOT /a"), "/a", false},
		{path("/a/*"), "/A/b", false}, {folded(path("/a/*")), "/A/b", true}, {folded(path("/A/*")), "/a/b", true}, {folded(path("/É")), "/%C3%89", false},
		{path("/a"), "/a?x#y", true}, {path("/a?x"), "/a?x", false}, {path("/a*"), "/b?/a#/a", false},
		// The URL's parts are in their normal form, the pattern is what it is.
		{path("/a"), "/%61", true}, {path("/%61"), "/%61", false}, {path("/%2F"), "/%2f", true}, {path("/%2f"), "/%2f", false}, {folded(path("/%2f")), "/%2f", true}, {path("/é"), "/é", true}, {path("/?"), "/é", true}, {path("/a\\.b"), "/a.b", false},
	})
}

// P21.1: the query as a whole, and the fragment; a URL without them has empty ones.
func TestQueryAndFragment(t *testing.T) {
	for pattern, wanted := range map[string]map[string]bool{
		"":     {"": true, "\x00": true, "a": false, "a=1": false},
		"*":    {"": true, "\x00": true, "a": true, "a=1&b": true, "%ff": true},
		"?*":   {"": false, "\x00": false, "a": true},
		"a=?":  {"": false, "\x00": false, "a=1": true, "A=1": false, "a=12": false, "a=1&b": false, "b&a=1": false, "a=é": true, "a=%C3": false, "%61=1": true},
		"%3D*": {"%3d": true, "=": false, "%3D&": true},
	} {
		for s, want := range wanted {
			// \x00 stands for a URL that hasn't one at all.
			told := func(mark string) string {
				if s == "\x00" {
					return ""
				}
				return mark + s
			}
			matches(t, []check{{asks(pattern), "/" + told("?"), want}, {asks(pattern), "/" + told("?") + "#x", want}, {fragment(pattern), "/" + told("#"), want}, {fragment(pattern), "/?x" + told("#"), want}})
		}
	}
	matches(t, []check{
		{asks("Q"), "?q", false}, {folded(asks("Q")), "?q", true}, {fragment("F"), "#f", false}, {folded(fragment("F")), "#f", true},
		{asks("x"), "/x#x", false}, {fragment("x"), "/x?x", false}, {asks("b"), "/a?b#c", true}, {fragment("c"), "/a?b#c", true}, {fragment("c?d"), "#c?d", true}, {asks("b?d"), "?b?d", true},
	})
}

// P21.1: what a URL doesn't have is empty, whatever stands in its place.
func TestWithoutQueryAndFragment(t *testing.T) {
	u := api.URL{Scheme: "https", Path: "/", Query: "a=1", Fragment: "f"}
	for _, c := range []struct {
		x             api.Rule
		without, with bool
	}{
		{asks(""), true, false}, {asks("a=1"), false, true}, {fragment(""), true, false}, {fragment("f"), false, true}, {wants(item("a", "*")), false, true}, {decoded(asks("?*")), false, true}, {decoded(fragment("?*")), false, true},
	} {
		with := u
		with.HasQuery, with.HasFrag = true, true
		same(t, "without", route.Matches(c.x, nil, u), c.without)
		same(t, "with", route.Matches(c.x, nil, with), c.with)
	}
}

// P21.1: a Decoded rule looks at what Decode gives, if that is characters' bytes.
func TestDecoded(t *testing.T) {
	for _, c := range []struct {
		pattern, s  string
		plain, bare bool // without, and with Decoded
	}{
		{"x y", "x%20y", false, true}, {"x%20y", "x%20y", true, false}, {"x%20y", "x%2520y", false, true}, {"x%2520y", "x%2520y", true, false}, {"x%C3%A9", "x%c3%a9", true, false}, {"xé", "x%c3%a9", false, true}, {"x?", "x%c3%a9", false, true}, {"x??????", "x%c3%a9", true, false},
		{"xé", "xé", true, true}, {"x?", "x%3f", false, true}, {"x", "x", true, true}, {"x*y", "x%2Fy", true, true}, {"x/y", "x%2Fy", false, true}, {"x+y", "x+y", true, true}, {"x y", "x+y", false, false}, {"x\x00", "x%00", false, true},
		{"x*", "x%ff", true, false}, {"x%FF", "x%ff", true, false}, {"x\xff", "x%ff", false, false}, {"x*", "x%c3", true, false}, {"x*", "x%c0%80", true, false}, {"x*", "x%ed%a0%80", true, false}, {"x*", "x%f4%90%80%80", true, false}, {"x*", "x%c3%a9%a9", true, false},
	} {
		for mark, x := range map[string]api.Rule{"/": path("/" + c.pattern), "?": asks(c.pattern), "#": fragment(c.pattern)} {
			matches(t, []check{{x, mark + c.s, c.plain}, {decoded(x), mark + c.s, c.bare}})
		}
	}
	matches(t, []check{
		// With Fold, too, and only of the parts that are wanted.
		{decoded(path("/É")), "/%C3%89", true}, {folded(decoded(path("/A B"))), "/a%20b", true}, {decoded(path("/A B")), "/a%20b", false},
		{decoded(path("/a")), "/a?%ff#%ff", true}, {decoded(asks("a")), "/%ff?a#%ff", true}, {decoded(fragment("a")), "/%ff?%ff#a", true}, {decoded(wants(item("a", ""))), "/%ff?a#%ff", true},
		{decoded(asks("")), "/", true}, {decoded(fragment("")), "/", true},
	})
}

// P21.1: variables are in a pattern, as layer 19 says.
func TestVariables(t *testing.T) {
	matches(t, []check{
		{path("/$(food)"), "/pizza", true}, {path("/$(food)"), "/tacos", true}, {path("/$(food)"), "/soup", false}, {path("/$(food)"), "/PIZZA", false}, {folded(path("/$(food)")), "/PIZZA", true}, {path("/$(Food)"), "/pizza", false},
		{path("/$(lang)/$(food)/*"), "/en/tacos/1", true}, {path("/$(lang)/*"), "/EN/", false}, {folded(path("/$(lang)/*")), "/EN/", true}, {folded(path("/$(upper)")), "/a", true}, {path("/$(digit)"), "/7", true}, {path("/$(digit)"), "/x", false},
		{path("*$(none)"), "/", false}, {path("*$(huh)"), "/", false}, {path("*$("), "/$(", false}, {path("/$"), "/$", true}, {path("/$(much)"), "/m", true}, {path("/$(much)"), "/x", false},
		{asks("q=$(food)"), "?q=pizza", true}, {asks("q=$(food)"), "?q=soup", false}, {fragment("$(food)"), "#tacos", true}, {fragment("$(region)"), "#UK", true}, {fragment("$(region)"), "#uk", false}, {decoded(fragment("$(food) $(digit)")), "#taco%20%31", true},
		{wants(item("q", "$(food)")), "?q=pizza", true}, {wants(item("q", "$(food)")), "?q=soup", false}, {wants(item("q", "$(food)")), "?q=TACO", false}, {folded(wants(item("q", "$(food)"))), "?q=TACO", true}, {wants(item("$(food)", "*")), "?pizza=1", false}, {wants(item("$(food)", "*")), "?$(food)=1", true}, {wants(item("q", "*$(huh)")), "?q=1", false},
	})
	same(t, "without variables", route.Matches(path("/$(food)"), nil, at(t, "/pizza")), false)
	same(t, "without variables, of one that there is always", route.Matches(path("/$(digit)"), nil, at(t, "/1")), true)
}

// P21.1: what is wrong has no language, and what isn't characters' bytes is in none.
func TestWrongPatternsAndParts(t *testing.T) {
	for _, pattern := range append([]string{long, "*" + strings.Repeat("a", 1024)}, wrongTexts...) {
		for _, x := range []api.Rule{path("*" + pattern), asks("*" + pattern), fragment("*" + pattern), wants(item("a", pattern))} {
			for _, u := range []api.URL{at(t, "/"+strings.Repeat("a", 1024)+"?a#a"), {Path: "*" + pattern, Query: "*" + pattern + "&a=" + pattern, HasQuery: true, Fragment: "*" + pattern, HasFrag: true}} {
				same(t, pattern, route.Matches(x, food, u), false)
				same(t, pattern+", decoded", route.Matches(decoded(x), food, u), false)
			}
		}
	}
	matches(t, []check{{path(strings.Repeat("*", 1024)), "/", true}})
	for _, s := range wrongTexts {
		u := api.URL{Path: s, Query: s, HasQuery: true, Fragment: s, HasFrag: true}
		for _, x := range []api.Rule{path("*"), asks("*"), fragment("*"), wants(item(s, "*"))} {
			same(t, s, route.Matches(x, nil, u), false)
			same(t, s+", decoded", route.Matches(decoded(x), nil, u), false)
		}
	}
	// An escape that is wrong stands for itself, but can't be decoded.
	for _, s := range []string{"%", "a%2", "%gg", "%%41"} {
		u := api.URL{Path: s, Query: s, HasQuery: true, Fragment: s, HasFrag: true}
		for _, x := range []api.Rule{path(s), asks(s), fragment(s)} {
			same(t, s, route.Matches(x, nil, u), true)
			same(t, s+", decoded", route.Matches(decoded(x), nil, u), false)
		}
		same(t, s+", an item", route.Matches(wants(item(s, "*")), nil, u), false)
	}
}

// P21.1: items are wanted of the URL's query.
func TestItems(t *testing.T) {
	matches(t, []check{
		{wants(item("q", "1")), "?q=1", true}, {wants(item("q", "1")), "?q=2", false}, {wants(item("q", "1")), "?Q=1", false}, {folded(wants(item("q", "1"))), "?Q=1", false}, {wants(item("q", "x")), "?q=X", false}, {folded(wants(item("q", "x"))), "?q=X", true}, {folded(wants(item("q", "X"))), "?q=x", true},
		{wants(item("q", "?")), "?r&q=22&q=1", true}, {wants(item("q", "?")), "?q=22&r=1", false}, {wants(item("q", "")), "?q", true}, {wants(item("q", "")), "?q=", true}, {wants(item("q", "")), "?q=1", false}, {wants(item("q", "*")), "?q", true}, {wants(item("q", "?*")), "?q", false},
		{wants(item("q", "?"), item("r", "")), "?r&q=22&q=1", true}, {wants(item("r", ""), item("q", "?")), "?q=22&q=1", false}, {wants(item("q", "?"), item("r", "")), "?r", false}, {wants(item("q", "1"), item("q", "2")), "?q=2&q=1", true}, {wants(item("q", "1"), item("q", "2")), "?q=1", false}, {wants(item("q", "1"), item("q", "?")), "?q=1", true},
		{wants(item("q", "*")), "", false}, {wants(item("q", "*")), "?", false}, {wants(item("q", "*")), "?&&", false}, {wants(item("q", "*")), "#q=1", false}, {wants(item("q", "*")), "/q=1", false}, {wants(item("", "")), "", false}, {wants(item("", "")), "?", false}, {wants(item("", "")), "?=", true}, {wants(item("", "x")), "?a&=x", true},
		{wants(item("*", "*")), "?q=1", false}, {wants(item("?", "*")), "?q=1", false}, {wants(item("*", "*")), "?*=1", true}, {wants(item("qq", "*")), "?q=1", false}, {wants(item("q", "*")), "?qq=1", false}, {wants(item("q", "1=2")), "?q=1=2", true},
		// Without Has, too, a pattern is that of the value.
		{wants(api.Item{Name: "q", Value: "1"}), "?q=1", true}, {wants(api.Item{Name: "q", Value: "1"}), "?q", false}, {wants(api.Item{Name: "q"}), "?q=1", false}, {wants(api.Item{Name: "q"}), "?q", true},
		// Names and values are decoded once, whatever the rule is.
		{wants(item("q&", "a b")), "?%71%26=a%20b", true}, {wants(item("q", "a+b")), "?q=a+b", true}, {wants(item("q", "a b")), "?q=a+b", false}, {wants(item("q", "%20")), "?q=%20", false}, {wants(item("q", "?")), "?q=%C3%A9", true}, {wants(item("%3D", "*")), "?%3D=1", false}, {wants(item("=", "1")), "?%3D=1", true},
		{decoded(wants(item("q", "%41"))), "?q=%2541", true}, {decoded(wants(item("q", "A"))), "?q=%2541", false}, {decoded(wants(item("q", "1&r=2"))), "?q=1%26r=2", true}, {decoded(wants(item("r", "2"))), "?q=1%26r=2", false}, {decoded(wants(item("q=", "1"))), "?q%3d=1", true},
		// With a part that is wrong the query isn't one, wherever that stands.
		{wants(item("q", "*")), "?q=%ff", false}, {wants(item("q", "*")), "?q=1&r=%ff", false}, {wants(item("q", "*")), "?%ff&q=1", false}, {wants(), "?%ff", true}, {asks("*"), "?%ff", true},
		{wants(item("q", "*")), "?q" + strings.Repeat("&x", 255), true}, {wants(item("q", "*")), "?" + strings.Repeat("x&", 255) + "q", true}, {wants(item("q", "*")), "?q" + strings.Repeat("&x", 256), false}, {wants(item("q", "*")), "?" + strings.Repeat("x&", 256) + "q", false}, {wants(item("q", "*")), "?" + strings.Repeat("&", 999) + "q", true}, {asks("*"), "?q" + strings.Repeat("&x", 256), true},
	})
	same(t, "many wanted", route.Matches(wants(slices.Repeat([]api.Item{item("a", "*")}, 999)...), nil, at(t, "?b&a")), true)
	same(t, "many wanted, and one that isn't there", route.Matches(wants(append(slices.Repeat([]api.Item{item("a", "*")}, 999), item("c", "*"))...), nil, at(t, "?b&a")), false)
}

// P21.1: all that is wanted must be there, whatever is there besides.
func TestAllOfThese(t *testing.T) {
	right := api.Rule{Path: "/p", Query: "q=1", Fragment: "f", Items: []api.Item{item("q", "1")}}
	for n := range 256 {
		on := func(bit int) bool { return n>>bit&1 == 1 }
		x := right
		x.HasPath, x.HasQuery, x.HasFragment = on(0), on(1), on(2)
		if !on(3) {
			x.Items = nil
		} else if on(7) {
			x.Items = []api.Item{item("q", "1"), item("q", "2")}
		}
		if on(4) {
			x.Path = "/x"
		}
		if on(5) {
			x.Query = "x"
		}
		if on(6) {
			x.Fragment = "x"
		}
		want := !(on(0) && on(4)) && !(on(1) && on(5)) && !(on(2) && on(6)) && !(on(3) && on(7))
		matches(t, []check{{x, "/p?q=1#f", want}, {decoded(x), "/p?q=1#f", want}, {decoded(x), "/%70?%71=%31#%66", want}, {folded(x), "/P?q=1#F", want}})
	}
	// Each part alone is wrong, and the Items alone.
	x := right
	x.HasPath, x.HasQuery, x.HasFragment = true, true, true
	matches(t, []check{{x, "/p?q=1#f", true}, {x, "/P?q=1#f", false}, {x, "/p?Q=1#f", false}, {x, "/p?q=1#F", false}, {x, "/p?q=1", false}, {x, "/p#f", false}, {decoded(x), "/p?q=1#%ff", false}})
}

// P21.1: of one part, and of one item, it is what layer 19's Match tells.
func TestAsMatch(t *testing.T) {
	patterns := []string{"", "/", "/a", "/A*", "/?", "*", "$(alpha)", "/$(food)", "/$(food)*", "$(", "*$(none)", "/$(digit)"}
	for _, s := range []string{"/", "/a", "/A", "/é", "/pizza", "/TACO", "/1", "/a/1", "/$("} {
		u := api.URL{Path: s, Query: s, HasQuery: true, Fragment: s, HasFrag: true}
		list := api.URL{Query: query.Text([]api.Item{item("x", "no"), item("n", s)}), HasQuery: true}
		for _, pattern := range patterns {
			for _, fold := range []bool{false, true} {
				want := subst.Match(pattern, food, s, fold)
				for _, x := range []api.Rule{path(pattern), asks(pattern), fragment(pattern)} {
					x.Fold = fold
					same(t, pattern+" for "+s, route.Matches(x, food, u), want)
					same(t, pattern+" for "+s+", decoded", route.Matches(decoded(x), food, u), want)
				}
				x := wants(item("n", pattern))
				x.Fold = fold
				same(t, pattern+" for the item "+s, route.Matches(x, food, list), want)
			}
		}
	}
}

// first asks for a place, and for the verdict of its rule.
func first(t *testing.T, a api.Assoc, app api.AppID, u api.URL, detail, rule, verdict int) {
	t.Helper()
	d, r, ok := route.First(a, app, u)
	if got, want := [2]int{d, r}, [2]int{detail, rule}; got != want || ok != (verdict != api.NoVerdict) {
		t.Errorf("First of %v, %s: got %d, %d, %v, want %d, %d", app, url.Text(u), d, r, ok, detail, rule)
	}
	if got := route.Verdict(a, app, u); got != verdict {
		t.Errorf("Verdict of %v, %s: got %d, want %d", app, url.Text(u), got, verdict)
	}
}

func excludes(x api.Rule) api.Rule { x.Exclude = true; return x }

func detail(apps []api.AppID, rules ...api.Rule) api.Detail {
	return api.Detail{Apps: apps, Rules: rules}
}

// P21.2, and the chapter's example.
func TestExample(t *testing.T) {
	a := api.Assoc{Details: []api.Detail{detail([]api.AppID{appA}, excludes(path("/buy/x")), path("/buy/*"))}}
	for s, want := range map[string]int{"/buy/x": api.Excludes, "/buy/y": api.Lets, "/": api.NoVerdict} {
		same(t, s, route.Verdict(a, appA, at(t, s)), want)
	}
	first(t, a, appA, at(t, "/buy/y"), 0, 1, api.Lets)
	first(t, a, appA, at(t, "/buy"), 0, 0, api.NoVerdict)
	first(t, a, appB, at(t, "/buy/y"), 0, 0, api.NoVerdict)
}

// P21.2: of a document as a whole.
func TestOfDocuments(t *testing.T) {
	a, err := aasa.Decode([]byte(`{"applinks":{"substitutionVariables":{"food":["pizza","taco*"]},"details":[
		{"appIDs":["ABCDE12345.b"],"components":[{"/":"/b"}]},
		{"appIDs":["ABCDE12345.b","ABCDE12345.a"],"components":[{"/":"/$(food)","exclude":true},{"?":{"id":"?*"}},{"/":"/A b","caseSensitive":false,"percentEncoded":false}]},
		{"appID":"ABCDE12345.a","paths":["NOT /no*","/b","/$(food)"]},
		{"appID":"ABCDE12345.a"}]}}`))
	if err != nil {
		t.Fatal(err)
	}
	for s, want := range map[string][2][3]int{
		"/b": {{2, 1, api.Lets}, {0, 0, api.Lets}}, "/tacos": {{1, 0, api.Excludes}, {1, 0, api.Excludes}}, "/tacos?id=1": {{1, 0, api.Excludes}, {1, 0, api.Excludes}}, "/no?id=1": {{1, 1, api.Lets}, {1, 1, api.Lets}}, "/no?id": {{2, 0, api.Excludes}, {}}, "/a%20B": {{1, 2, api.Lets}, {1, 2, api.Lets}}, "/x": {},
	} {
		for i, app := range []api.AppID{appA, appB} {
			first(t, a, app, at(t, s), want[i][0], want[i][1], want[i][2])
		}
		first(t, a, appC, at(t, s), 0, 0, api.NoVerdict)
	}
}

// P21.2: an association's variables are those of its rules.
func TestVariablesOfAssociation(t *testing.T) {
	a := api.Assoc{Details: []api.Detail{detail([]api.AppID{appA}, excludes(path("/$(huh)")), path("/$(food)"), excludes(path("*")))}}
	first(t, a, appA, at(t, "/pizza"), 0, 2, api.Excludes)
	a.Vars = food
	first(t, a, appA, at(t, "/pizza"), 0, 1, api.Lets)
	first(t, a, appA, at(t, "/soup"), 0, 2, api.Excludes)
}

// each goes through all lists of at most so many of some things.
func each[T any](of []T, most int, tell func(list []T)) {
	lists := [][]T{nil}
	for range most + 1 {
		var next [][]T
		for _, list := range lists {
			tell(list)
			for _, one := range of {
				next = append(next, append(slices.Clone(list), one))
			}
		}
		lists = next
	}
}

// P21.2: of all small associations what the words of the promise say, done slowly.
func TestFirstInOrder(t *testing.T) {
	u, yes, no := at(t, "/a"), path("/a"), path("/b")
	var details []api.Detail
	for _, apps := range [][]api.AppID{nil, {appA}, {appB, appA}, {appB, appB}} {
		each([]api.Rule{no, yes, excludes(yes)}, 2, func(rules []api.Rule) { details = append(details, detail(apps, rules...)) })
	}
	each(details, 2, func(list []api.Detail) {
		a := api.Assoc{Details: list}
		for _, app := range []api.AppID{appA, appB, appC} {
			place, verdict, named := [2]int{}, api.NoVerdict, false
			for i := len(list) - 1; i >= 0; i-- {
				if !slices.Contains(list[i].Apps, app) {
					continue
				}
				named = true
				for k := len(list[i].Rules) - 1; k >= 0; k-- {
					if x := list[i].Rules[k]; x.Path == "/a" {
						place, verdict = [2]int{i, k}, api.Lets
						if x.Exclude {
							verdict = api.Excludes
						}
					}
				}
			}
			first(t, a, app, u, place[0], place[1], verdict)
			same(t, "Names", route.Names(a, app), named)
		}
	})
}

// P21.2: an app is named by both of its names, just as they are.
func TestNames(t *testing.T) {
	a := api.Assoc{Details: []api.Detail{detail(nil, api.Rule{}), detail([]api.AppID{appB, appA}), detail([]api.AppID{{Team: "", Bundle: "x"}, {Team: "\xff"}})}}
	for app, want := range map[api.AppID]bool{
		appA: true, appB: true, appC: false, {}: false, {Team: team}: false, {Bundle: "a"}: false, {Team: team, Bundle: "A"}: false, {Team: "abcde12345", Bundle: "a"}: false, {Team: team, Bundle: "a "}: false, {Team: team, Bundle: "*"}: false, {Team: team + "a"}: false, {Bundle: "x"}: true, {Team: "x"}: false, {Team: "\xff"}: true, {Team: "\xfe"}: false,
	} {
		same(t, app.Team+"."+app.Bundle, route.Names(a, app), want)
	}
	same(t, "nothing", route.Names(api.Assoc{}, api.AppID{}), false)
	same(t, "an empty name that is there", route.Names(api.Assoc{Details: []api.Detail{detail([]api.AppID{{}})}}, api.AppID{}), true)
	same(t, "rules for all apps", route.Names(api.Assoc{Details: []api.Detail{detail(nil, api.Rule{})}}, appA), false)
}

// P21.2: of many rules, and a long URL, it is found at once.
func TestManyRules(t *testing.T) {
	rules := slices.Repeat([]api.Rule{decoded(path("/b*")), wants(item("b", "*")), excludes(fragment("x"))}, 170)
	a := api.Assoc{Details: slices.Repeat([]api.Detail{detail([]api.AppID{appA}, rules...)}, 13)}
	a.Details = append(a.Details, detail([]api.AppID{appA}, append(slices.Clone(rules), excludes(api.Rule{}))...))
	u := at(t, "/"+strings.Repeat("a", 2000)+"?"+strings.Repeat("%20&", 256)+"#"+strings.Repeat("%C3%A9", 500))
	first(t, a, appA, u, 13, 510, api.Excludes)
}

// spare gives a list with room behind it, and all of its room.
func spare[T any](more T, list ...T) (short, whole []T) {
	whole = append(slices.Clone(list), more)
	return whole[:len(list)], whole
}

// P21.3: what is handed in stays, its spare room, too, and isn't kept.
func TestHandedInStays(t *testing.T) {
	items, allItems := spare(item("spare", "*"), item("b", "2"), item("a", "?"))
	values, allValues := spare("spare", "pizza", "taco*")
	vars, allVars := spare(api.Var{Name: "spare"}, api.Var{Name: "food", Values: values}, api.Var{Name: "a"})
	apps, allApps := spare(appC, appB, appA)
	rules, allRules := spare(excludes(api.Rule{}), api.Rule{Path: "/no", HasPath: true, Fold: true}, api.Rule{Path: "/$(food)", HasPath: true, Items: items, Decoded: true})
	details, allDetails := spare(detail([]api.AppID{appC}), detail(apps, rules...), detail([]api.AppID{appB}))
	details[0].Rules = rules
	before := func() []any {
		return []any{slices.Clone(allItems), slices.Clone(allValues), slices.Clone(allVars), slices.Clone(allApps), slices.Clone(allRules), slices.Clone(allDetails)}
	}
	want := before()
	a, u := api.Assoc{Details: details, Vars: vars}, at(t, "/t%61cos?a=1&b=2")
	first(t, a, appA, u, 0, 1, api.Lets)
	first(t, a, appC, u, 0, 0, api.NoVerdict)
	same(t, "Matches", route.Matches(rules[1], vars, u), true)
	same(t, "Names", route.Names(a, appB), true)
	same(t, "what was handed in", before(), want)

	// What is written over counts from then on.
	values[1] = "none"
	first(t, a, appA, u, 0, 0, api.NoVerdict)
	values[0] = "t*s"
	first(t, a, appA, u, 0, 1, api.Lets)
	items[0].Value = "3"
	same(t, "Matches, when an item is written over", route.Matches(rules[1], vars, u), false)
	apps[1] = appC
	same(t, "Names, when an app is written over", route.Names(a, appA), false)
}

// P1 and P2: all calls end, none panics, and a second run answers what the first one did.
func TestAnyArguments(t *testing.T) {
	texts := append([]string{"", "/", "%", "%ff", "&", "=", "*", "$(", "$(food)", "$(lang)", long, strings.Repeat("&", 999), strings.Repeat("%", 999), strings.Repeat("a&", 999)}, wrongTexts...)
	var urls []api.URL
	var rules []api.Rule
	vars := slices.Clone(food)
	for i, s := range texts {
		for n := range 4 {
			urls = append(urls, api.URL{Scheme: s, Host: api.Host{Kind: -n, Text: s}, Port: n - 9, Path: s, Query: s, HasQuery: n&1 == 1, Fragment: s, HasFrag: n&2 == 2})
		}
		for n := range 16 {
			rules = append(rules, api.Rule{Path: s, HasPath: n&1 == 1, Query: s, HasQuery: n&2 == 2, Fragment: s, HasFragment: n&4 == 4, Items: []api.Item{{Name: s, Value: s}}[:n&1], Fold: n&8 == 8, Decoded: n&8 == 0})
		}
		vars = append(vars, api.Var{Name: s, Values: texts[:i]})
	}
	assocs := []api.Assoc{{}, {Vars: vars}, {Details: make([]api.Detail, 3)}, {Details: []api.Detail{detail([]api.AppID{appB}), detail(make([]api.AppID, 2), rules...)}, Vars: vars}, {Details: []api.Detail{detail([]api.AppID{appA}, rules...)}}}
	run := func() []string {
		var all []string
		keep := func(what ...any) {
			for _, one := range what {
				switch x := one.(type) {
				case bool:
					all = append(all, strconv.FormatBool(x))
				case int:
					all = append(all, strconv.Itoa(x))
				}
			}
		}
		for _, u := range urls {
			for _, x := range rules {
				keep(route.Matches(x, vars, u), route.Matches(x, nil, u))
			}
			for _, a := range assocs {
				for _, app := range []api.AppID{{}, appA, appB} {
					d, r, ok := route.First(a, app, u)
					if !ok && (d != 0 || r != 0) {
						t.Error("a place beside false")
					}
					keep(d, r, ok, route.Verdict(a, app, u), route.Names(a, app))
				}
			}
		}
		return all
	}
	same(t, "whether the second run is as the first one", slices.Equal(run(), run()), true)
}
