package report_test

import (
	"errors"
	"math"
	"strings"
	"testing"

	"waybill/api"
	"waybill/ident"
	"waybill/jsonp"
	"waybill/report"
)

// mark stands in a line ahead of the value that is wrong, and is taken out.
const mark = "①"

// install, apple, android, filter, toggle and deliver give lines with some members.
func install(members string) string { return `{"install":{` + members + `}}` }
func apple(members string) string   { return install(`"id":"a","apple":{` + members + `}`) }
func android(members string) string { return install(`"id":"a","android":{` + members + `}`) }
func filter(members string) string {
	return android(`"package":"p","filters":[{` + members + `}]`)
}
func toggle(members string) string  { return `{"toggle":{` + members + `}}` }
func deliver(members string) string { return `{"deliver":{` + members + `}}` }

// installed and filtered give events of installations.
func installed(m api.Manifest) api.Event { return api.Event{Kind: api.EvInstall, Manifest: m} }

func filtered(list ...api.Filter) api.Event {
	return installed(api.Manifest{ID: "a", Package: "p", Filters: list})
}

func delivered(r api.Response) api.Event { return api.Event{Kind: api.EvDeliver, Response: r} }

// wholeFilter has all that a filter can have, and so have the others.
func wholeFilter() api.Filter {
	return api.Filter{
		Actions:    []string{api.ActionView, ""},
		Categories: []string{api.CategoryDefault, api.CategoryBrowsable},
		Schemes:    []string{"https", "APP"},
		Hosts:      []api.FilterHost{at(name("a.com"), 8443), at(wild("b.com"), -1), at(wild(""), 0)},
		Paths:      []api.FilterPath{{Kind: api.PathPattern, Text: ".*"}, {Kind: api.PathExact}, {Kind: api.PathPrefix, Text: "/x"}},
		AutoVerify: true,
	}
}

func wholeApple() api.Manifest {
	return api.Manifest{
		ID: "b", Apple: true, App: api.AppID{Team: team, Bundle: "com.b"},
		Domains: []api.HostPattern{name("x.com"), wild("x.com"), wild(""), name("[::1]"), name("x.com")},
		Schemes: []string{"app", "http", "", "?"},
	}
}

func wholeAndroid() api.Manifest {
	return api.Manifest{
		ID: "b", Package: "com.b", Prints: []api.Print{printB, printA, printB},
		Filters: []api.Filter{wholeFilter(), {}, {AutoVerify: true}},
	}
}

func wholeResponse() api.Response {
	return api.Response{
		ID: math.MaxUint64, Status: 999, Redirect: true, Timeout: true,
		Type: "text/plain", Cache: "no-store", Body: []byte("\x00{}\n"),
	}
}

// canonical gives lines in canonical form, and the events that they tell.
func canonical() map[string]api.Event {
	return map[string]api.Event{
		`{"install":{"apple":{"app":"ABCDE12345.c"},"id":"a"}}`: installed(api.Manifest{ID: "a", Apple: true, App: api.AppID{Team: team, Bundle: "c"}}),
		`{"install":{"apple":{"app":"ABCDE12345.com.b","domains":["x.com","*.x.com","*","[::1]","x.com"],"schemes":["app","http","","?"]},"id":"b"}}`: installed(wholeApple()),
		`{"install":{"android":{"package":""},"id":""}}`:                                                                     installed(api.Manifest{}),
		`{"install":{"android":{"package":"p","prints":["` + textA + `"]},"id":"a"}}`:                                        installed(api.Manifest{ID: "a", Package: "p", Prints: []api.Print{printA}}),
		`{"install":{"android":{"filters":[{}],"package":"p"},"id":"a"}}`:                                                    filtered(api.Filter{}),
		`{"install":{"android":{"filters":[{"autoVerify":true},{"actions":[""]}],"package":"p"},"id":"a"}}`:                  filtered(api.Filter{AutoVerify: true}, api.Filter{Actions: []string{""}}),
		`{"install":{"android":{"filters":[{"paths":[{"exact":""},{"prefix":""},{"pattern":""}]}],"package":"p"},"id":"a"}}`: filtered(api.Filter{Paths: []api.FilterPath{{Kind: api.PathExact}, {Kind: api.PathPrefix}, {Kind: api.PathPattern}}}),
		`{"install":{"android":{"filters":[{"actions":["android.intent.action.VIEW",""],"autoVerify":true,` +
			`"categories":["android.intent.category.DEFAULT","android.intent.category.BROWSABLE"],` +
			`"hosts":["a.com:8443","*.b.com","*:0"],"paths":[{"pattern":".*"},{"exact":""},{"prefix":"/x"}],"schemes":["https","APP"]},` +
			`{},{"autoVerify":true}],"package":"com.b","prints":["` + textB + `","` + textA + `","` + textB + `"]},"id":"b"}}`: installed(wholeAndroid()),
		`{"uninstall":""}`:                                 {Kind: api.EvUninstall},
		`{"uninstall":"a\n\"\u0000é"}`:                     {Kind: api.EvUninstall, ID: "a\n\"\x00é"},
		`{"toggle":{"app":""}}`:                            {Kind: api.EvToggle},
		`{"toggle":{"app":"a","on":true}}`:                 {Kind: api.EvToggle, ID: "a", On: true},
		`{"toggle":{"app":"a","host":"X.com"}}`:            {Kind: api.EvToggle, ID: "a", Host: "X.com"},
		`{"toggle":{"app":"","host":"[","on":true}}`:       {Kind: api.EvToggle, Host: "[", On: true},
		`{"tick":0}`:                                       {Kind: api.EvTick},
		`{"tick":10}`:                                      {Kind: api.EvTick, N: 10},
		`{"tick":18446744073709551615}`:                    {Kind: api.EvTick, N: math.MaxUint64},
		`{"deliver":{"id":0}}`:                             delivered(api.Response{}),
		`{"deliver":{"id":7,"status":1,"timeout":true}}`:   delivered(api.Response{ID: 7, Status: 1, Timeout: true}),
		`{"deliver":{"cache":"c","id":1,"redirect":true}}`: delivered(api.Response{ID: 1, Cache: "c", Redirect: true}),
		`{"deliver":{"body":"\u0000{}\n","cache":"no-store","id":18446744073709551615,"redirect":true,"status":999,"timeout":true,"type":"text/plain"}}`: delivered(wholeResponse()),
		`{"open":""}`:               {Kind: api.EvOpen},
		`{"open":"https://x.com/"}`: {Kind: api.EvOpen, URL: "https://x.com/"},
	}
}

// otherForms gives lines that aren't in canonical form, or tell what need not be there, and the events that they tell.
func otherForms() map[string]api.Event {
	open := func(s string) api.Event { return api.Event{Kind: api.EvOpen, URL: s} }
	short := installed(api.Manifest{ID: "a", Apple: true, App: api.AppID{Team: team, Bundle: "c"}})
	return map[string]api.Event{
		" {\t\"open\" :\r\n\"x\"} ":                             open("x"),
		`{"open":"\u0061\/\ud835\udcb3é\u00E9"}`:                open("a/𝒳éé"),
		`{"\u006fpen":"a"}`:                                     open("a"),
		`{"open":"a","open":"b"}`:                               open("b"),
		`{"open":1,"open":"b"}`:                                 open("b"),
		`{"x":[],"open":"b","ope":1,"opens":null}`:              open("b"),
		apple(`"app":"ABCDE12345.c","domains":[],"schemes":[]`): short,
		install(`"android":1,"apple":{"schemes":[],"app":"ABCDE12345.c","package":1,"prints":1,"id":1},"id":"a"`): short,
		android(`"package":"p","prints":[],"filters":[]`):                                                         installed(api.Manifest{ID: "a", Package: "p"}),
		android(`"domains":1,"package":"p","app":1,"schemes":1,"id":1`):                                           installed(api.Manifest{ID: "a", Package: "p"}),
		filter(`"actions":[],"categories":[],"schemes":[],"hosts":[],"paths":[],"autoVerify":false`):              filtered(api.Filter{}),
		filter(`"ports":[1],"Paths":1,"autoverify":1`):                                                            filtered(api.Filter{}),
		filter(`"autoVerify":null,"autoVerify":true`):                                                             filtered(api.Filter{AutoVerify: true}),
		`{"toggle":{"host":"","on":false,"app":"a","id":1}}`:                                                      {Kind: api.EvToggle, ID: "a"},
		deliver(`"status":0,"redirect":false,"timeout":false,"type":"","cache":"","body":"","id":0,"app":1`):      delivered(api.Response{}),
		apple(`"app":"0123456789.-","domains":["X.COM.","*.%41.b","B\u00fccher.","0x7f.1","[::FFFF:1.2.3.4]"]`): installed(api.Manifest{
			ID: "a", Apple: true, App: api.AppID{Team: digits, Bundle: "-"},
			Domains: []api.HostPattern{name("x.com"), wild("a.b"), name("xn--bcher-kva"), name("127.0.0.1"), name("[::ffff:102:304]")},
		}),
		android(`"package":"not right","prints":["` + strings.ToLower(textA) + `"]`): installed(api.Manifest{ID: "a", Package: "not right", Prints: []api.Print{printA}}),
		filter(`"hosts":["A.com:00443","[::0]:1","*"]`):                              filtered(api.Filter{Hosts: []api.FilterHost{at(name("a.com"), 443), at(name("[::]"), 1), at(wild(""), -1)}}),
	}
}

// reads asks for the event of a line that is right.
func reads(t *testing.T, line string, want api.Event) {
	t.Helper()
	got, err := report.Read([]byte(line))
	same(t, line, []any{got, err}, []any{want, nil})
}

// refuses asks for the error of a line at its mark, that it came from one of a kind alone, and for nothing beside it.
func refuses(t *testing.T, marked string, kind api.Errno) {
	t.Helper()
	line := strings.Replace(marked, mark, "", 1)
	got, err := report.Read([]byte(line))
	same(t, marked, tells(err), told{api.ErrDoc, strings.Index(marked, mark)})
	for _, k := range []api.Errno{api.ErrKind, api.ErrName, api.ErrForm, api.ErrHost, api.ErrPort, api.ErrShort, api.ErrLong, api.ErrRange} {
		same(t, []any{marked, "is of kind", k}, errors.Is(err, k), k == kind)
	}
	same(t, "beside the error of "+marked, got, api.Event{})
}

// P30.2: the events of lines, of all kinds.
func TestRead(t *testing.T) {
	for line, want := range canonical() {
		reads(t, line, want)
	}
}

// P30.2: a line may be written otherwise than in its canonical form; what need not be there may be told all the same.
func TestReadOtherForms(t *testing.T) {
	for line, want := range otherForms() {
		reads(t, line, want)
	}
}

// P30.2: of several keys of which the first one counts it is the first as they are told, wherever it stands, and be it right or not.
func TestReadFirst(t *testing.T) {
	row := []struct {
		key, value string
		e          api.Event
	}{
		{"install", `{"id":"a","android":{"package":"p"}}`, installed(api.Manifest{ID: "a", Package: "p"})},
		{"uninstall", `"a"`, api.Event{Kind: api.EvUninstall, ID: "a"}},
		{"toggle", `{"app":"a"}`, api.Event{Kind: api.EvToggle, ID: "a"}},
		{"tick", "7", api.Event{Kind: api.EvTick, N: 7}},
		{"deliver", `{"id":7}`, delivered(api.Response{ID: 7})},
		{"open", `"a"`, api.Event{Kind: api.EvOpen, URL: "a"}},
	}
	for i, one := range row {
		for _, other := range row[i+1:] {
			reads(t, `{"`+other.key+`":null,"`+one.key+`":`+one.value+`}`, one.e)
			reads(t, `{"`+one.key+`":`+one.value+`,"`+other.key+`":`+other.value+`}`, one.e)
			refuses(t, `{"`+other.key+`":`+other.value+`,"`+one.key+`":`+mark+`null}`, api.ErrKind)
		}
	}
	paths := []string{"exact", "prefix", "pattern"}
	for i, one := range paths {
		for _, other := range paths[i+1:] {
			want := filtered(api.Filter{Paths: []api.FilterPath{{Kind: api.PathExact + i, Text: "x"}}})
			reads(t, filter(`"paths":[{"`+other+`":null,"`+one+`":"x"}]`), want)
			refuses(t, filter(`"paths":[{"`+other+`":"x","`+one+`":`+mark+`null}]`), api.ErrKind)
		}
	}
	refuses(t, install(`"android":{"package":"p"},"id":"a","apple":`+mark+`null`), api.ErrKind)
}

// P30.2: each value that is of another kind than told.
func TestReadKinds(t *testing.T) {
	const app, id, pkg = `"app":"ABCDE12345.c",`, `"id":1,`, `"package":"p",`
	values := map[string]string{"null": "null", "true": "flag", "false": "flag", "1": "number", `"x"`: "text", "[]": "list", "{}": "object"}
	for marked, kind := range map[string]string{
		"①": "object", " ①": "object",
		`{"install":①}`:                      "object",
		install(`"id":①,"apple":1`):          "text",
		install(`"id":"a","apple":①`):        "object",
		install(`"id":"a","android":①`):      "object",
		apple(`"app":①`):                     "text",
		apple(app + `"domains":①`):           "list",
		apple(app + `"domains":["a",①,1]`):   "text",
		apple(app + `"schemes":①`):           "list",
		apple(app + `"schemes":["a",①,1]`):   "text",
		android(`"package":①`):               "text",
		android(pkg + `"prints":①`):          "list",
		android(pkg + `"prints":[①,1]`):      "text",
		android(pkg + `"filters":①`):         "list",
		android(pkg + `"filters":[{},①,1]`):  "object",
		filter(`"actions":①`):                "list",
		filter(`"actions":["",①,1]`):         "text",
		filter(`"categories":①`):             "list",
		filter(`"categories":["",①,1]`):      "text",
		filter(`"schemes":①`):                "list",
		filter(`"schemes":["",①,1]`):         "text",
		filter(`"hosts":①`):                  "list",
		filter(`"hosts":["a",①,1]`):          "text",
		filter(`"paths":①`):                  "list",
		filter(`"paths":[{"exact":""},①,1]`): "object",
		filter(`"paths":[{"exact":①}]`):      "text",
		filter(`"paths":[{"prefix":①}]`):     "text",
		filter(`"paths":[{"pattern":①}]`):    "text",
		filter(`"autoVerify":①`):             "flag",
		`{"uninstall":①}`:                    "text",
		`{"toggle":①}`:                       "object",
		`{"toggle":{"app":①}}`:               "text",
		`{"toggle":{"app":"a","host":①}}`:    "text",
		`{"toggle":{"app":"a","on":①}}`:      "flag",
		`{"tick":①}`:                         "number",
		`{"deliver":①}`:                      "object",
		deliver(`"id":①`):                    "number",
		deliver(id + `"status":①`):           "number",
		deliver(id + `"redirect":①`):         "flag",
		deliver(id + `"timeout":①`):          "flag",
		deliver(id + `"type":①`):             "text",
		deliver(id + `"cache":①`):            "text",
		deliver(id + `"body":①`):             "text",
		`{"open":①}`:                         "text",
	} {
		for value, is := range values {
			if is != kind {
				refuses(t, strings.Replace(marked, mark, mark+value, 1), api.ErrKind)
			}
		}
	}
}

// P30.2: what must be there, and isn't; the object's place is told.
func TestReadMissing(t *testing.T) {
	for _, marked := range []string{
		"①{}", "\n①{ }", `①{"Open":"a","":"b"}`, `①{"event":{"open":"a"}}`,
		`{"install":①{}}`, `{"install":①{"apple":{"app":"ABCDE12345.c"}}}`, `{"install":①{"ID":"a"}}`,
		`{"install":①{"id":"a"}}`, `{"install":①{"id":"a","Apple":{},"android ":{}}}`,
		install(`"id":"a","apple":①{}`), install(`"id":"a","apple":①{"domains":1}`), install(`"id":"a","apple":①{},"android":{"package":"p"}`),
		install(`"id":"a","android":①{}`), install(`"id":"a","android":①{"filters":1}`),
		filter(`"paths":[①{}]`), filter(`"paths":[{"exact":""},①{"Exact":"","advanced":"x"},1]`),
		`{"toggle":①{}}`, `{"toggle":①{"host":1,"on":1}}`,
		`{"deliver":①{}}`, `{"deliver":①{"status":"x"}}`, `{ "deliver" : ①{ "ID":1} }`,
	} {
		refuses(t, marked, api.ErrName)
	}
}

// P30.2: texts and numbers that aren't what is told of them.
func TestReadForms(t *testing.T) {
	for _, s := range []string{"", "x", team, team + ".", "abcde12345.a", team + ".a ", team + ".é", " " + team + ".a", team + "." + strings.Repeat("a", 156)} {
		refuses(t, apple(`"domains":1,"app":①"`+s+`"`), api.ErrForm)
	}
	for _, s := range []string{"", "a..b", "a:80", "*.", "*.1.2.3.4", "1.2.3.256", "[::1", "::1", "**", "a b", "%"} {
		refuses(t, apple(`"app":"ABCDE12345.c","domains":["*",①"`+s+`",1]`), api.ErrForm)
	}
	for _, s := range []string{"", "01", textA + ":", textA + "0", textA[1:], "0G" + textA[2:], strings.ReplaceAll(textA, ":", "-"), " " + textA} {
		refuses(t, android(`"package":"","prints":["`+textB+`",①"`+s+`",1]`), api.ErrForm)
	}
	for _, s := range []string{"", ":1", "a:65536", "a:", "a:1:2", "a..b", "[::1]:", "*.:1", ":99999999999999999999"} {
		refuses(t, filter(`"hosts":["*:1",①"`+s+`",1]`), api.ErrForm)
	}
	for _, s := range []string{"-1", "-0", "1.0", "0.5", "1e2", "1E0", "18446744073709551616", "100000000000000000000000000000000", "-18446744073709551616"} {
		refuses(t, `{"tick":①`+s+`}`, api.ErrForm)
		refuses(t, deliver(`"status":"x","id":①`+s), api.ErrForm)
		refuses(t, deliver(`"id":1,"redirect":1,"status":①`+s), api.ErrForm)
	}
	refuses(t, deliver(`"id":1,"status":①1000`), api.ErrForm)
	refuses(t, deliver(`"id":1,"status":①18446744073709551615`), api.ErrForm)
}

// P30.2: of several wrong values the first one as things are told counts, wherever it stands.
func TestReadOrder(t *testing.T) {
	for _, c := range []struct {
		line        func(members string) string
		first, keys string
	}{
		{install, `"id":"a",`, "id apple"},
		{install, `"id":"a",`, "id android"},
		{apple, `"app":"ABCDE12345.c",`, "app domains schemes"},
		{android, `"package":"p",`, "package prints filters"},
		{filter, "", "actions categories schemes hosts paths autoVerify"},
		{toggle, `"app":"a",`, "app host on"},
		{deliver, `"id":1,`, "id status redirect timeout type cache body"},
	} {
		keys := strings.Fields(c.keys)
		for i, one := range keys {
			for _, other := range keys[i+1:] {
				first := c.first
				if i == 0 {
					first = ""
				}
				refuses(t, c.line(first+`"`+other+`":null,"`+one+`":①null`), api.ErrKind)
			}
		}
	}
	refuses(t, filter(`"hosts":[①"",1]`), api.ErrForm)
	refuses(t, filter(`"hosts":[①1,""]`), api.ErrKind)
	refuses(t, filter(`"paths":[①{},1]`), api.ErrName)
	refuses(t, filter(`"paths":[{"exact":①1},{}],"autoVerify":1`), api.ErrKind)
	refuses(t, filter(`"autoVerify":①1},{"actions":1`), api.ErrKind)
	refuses(t, filter(`"autoVerify":true},{"paths":1,"actions":①1`), api.ErrKind)
	refuses(t, android(`"filters":[{"actions":1}],"package":"p","prints":[①""]`), api.ErrForm)
	refuses(t, apple(`"schemes":[1],"domains":["a",①""],"app":"ABCDE12345.c"`), api.ErrForm)
	refuses(t, install(`"apple":{"app":"x"},"id":①{}`), api.ErrKind)
}

// P30.2: layer 7's errors.
func TestReadNoText(t *testing.T) {
	for _, line := range []string{
		"", " ", "{", "nonsense", `{"open":"a"`, `{"open":"a"} x`, `{"open":"a",}`, `{"open":a}`, `{'open':'a'}`, `{"tick":01}`, `{"tick":+1}`, `{"tick":1.}`, `{"open"}`, "{}{}", "\ufeff{}",
		"{\"open\":\"\xff\"}", `{"open":"\ud800"}`, "{\"open\":\"\n\"}", `{"x":[1,],"open":"a"}`, `{"open":"a","x":nul}`, `[`, `{"open":1,"x":`,
	} {
		got, err := report.Read([]byte(line))
		same(t, line, tells(err), told{kind: api.ErrDoc})
		same(t, "beside the error of "+line, got, api.Event{})
		_, inner := jsonp.Parse([]byte(line), api.Bounds{Bytes: 1048576, Deep: 64, Nodes: 20000})
		same(t, "what the error of "+line+" came from", []any{errors.Unwrap(err), inner == nil}, []any{inner, false})
	}
}

// P30.2: a line within the bounds, and just beyond them.
func TestReadBounds(t *testing.T) {
	deep := func(n int) string {
		return `{"open":"a","x":` + strings.Repeat("[", n-1) + strings.Repeat("]", n-1) + "}"
	}
	wide := func(n int) string { return `{"open":"a","x":[1` + strings.Repeat(",1", n-4) + "]}" }
	long := func(n int) string { return `{"open":"a"}` + strings.Repeat(" ", n-12) }
	for what, c := range map[string]struct {
		line func(n int) string
		most int
		kind api.Errno
	}{"deep": {deep, 64, api.ErrDeep}, "wide": {wide, 20000, api.ErrMany}, "long": {long, 1048576, api.ErrLong}} {
		reads(t, c.line(c.most), api.Event{Kind: api.EvOpen, URL: "a"})
		got, err := report.Read([]byte(c.line(c.most + 1)))
		same(t, what, []any{tells(err), tells(errors.Unwrap(err)).kind}, []any{told{kind: api.ErrDoc}, c.kind})
		same(t, what, got, api.Event{})
	}
	// There are no other bounds: what is beyond these is refused when it happens.
	var manyPrints, manyFilters []string
	var prints []api.Print
	for n := range 3000 {
		p := api.Print{byte(n), byte(n >> 8)}
		prints = append(prints, p)
		manyPrints = append(manyPrints, `"`+strings.ToLower(ident.PrintText(p))+`"`)
		manyFilters = append(manyFilters, "{}")
	}
	id := strings.Repeat("a", 500)
	reads(t, install(`"id":"`+id+`","android":{"package":"","prints":[`+strings.Join(manyPrints, ",")+`],"filters":[`+strings.Join(manyFilters, ",")+`]}`),
		installed(api.Manifest{ID: id, Prints: prints, Filters: make([]api.Filter, 3000)}))
}
