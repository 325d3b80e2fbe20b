package aasa_test

import (
	"errors"
	"reflect"
	"slices"
	"strconv"
	"strings"
	"testing"
	"unsafe"

	"waybill/aasa"
	"waybill/api"
	"waybill/canon"
	"waybill/glob"
	"waybill/jsonp"
	"waybill/scan"
)

const (
	team = "ABCDE12345"

	// mark stands in a document ahead of the value that is wrong, and is taken out.
	mark = "¦"
)

var (
	appA = api.AppID{Team: team, Bundle: "a"}
	appB = api.AppID{Team: team, Bundle: "b.c-d"}
	appC = api.AppID{Team: "0123456789", Bundle: "a"}

	bounds = api.Bounds{Bytes: api.MaxAssoc, Deep: api.MaxDeep, Nodes: api.MaxNodes}

	long = strings.Repeat("p", 1025)
)

func same(t *testing.T, what string, got, want any) {
	t.Helper()
	if !reflect.DeepEqual(got, want) {
		t.Errorf("%.300q: got %#v, want %#v", what, got, want)
	}
}

// bare makes lists without elements nil: these are one.
func bare(a api.Assoc) api.Assoc {
	b := api.Assoc{}
	for _, d := range a.Details {
		other := api.Detail{Apps: append([]api.AppID(nil), d.Apps...)}
		for _, x := range d.Rules {
			x.Items = append([]api.Item(nil), x.Items...)
			other.Rules = append(other.Rules, x)
		}
		b.Details = append(b.Details, other)
	}
	for _, v := range a.Vars {
		b.Vars = append(b.Vars, api.Var{Name: v.Name, Values: append([]string(nil), v.Values...)})
	}
	return b
}

// wrong asks for the error itself, and for what errors.Is and errors.As tell of it.
func wrong(t *testing.T, what string, err error, kind api.Errno, at int) {
	t.Helper()
	var f *api.Fault
	if !errors.As(err, &f) {
		t.Errorf("%.300q: got %v, want errno %d at %d", what, err, kind, at)
		return
	}
	if f.Kind != kind || f.At != at || !errors.Is(err, kind) {
		t.Errorf("%.300q: got errno %d at %d, want %d at %d", what, f.Kind, f.At, kind, at)
	}
}

// decode asks for an association of a document that is right.
func decode(t *testing.T, doc string) api.Assoc {
	t.Helper()
	a, err := aasa.Decode([]byte(doc))
	if err != nil {
		var f *api.Fault
		errors.As(err, &f)
		t.Errorf("Decode of %.300q: got %v at %d, from %v", doc, err, f.At, f.Inner)
	}
	return bare(a)
}

func decodes(t *testing.T, doc string, want api.Assoc) {
	t.Helper()
	same(t, "Decode of "+doc, decode(t, doc), want)
}

// refuses asks for a document's error, that it came from one of a kind alone, of these four, and for nothing beside it; the mark tells the place.
func refuses(t *testing.T, marked string, kind api.Errno) {
	t.Helper()
	doc := strings.Replace(marked, mark, "", 1)
	got, err := aasa.Decode([]byte(doc))
	what := "Decode of " + marked
	wrong(t, what, err, api.ErrDoc, strings.Index(marked, mark))
	for _, k := range []api.Errno{api.ErrKind, api.ErrName, api.ErrMany, api.ErrForm} {
		same(t, what+", that its error is of "+strconv.Itoa(int(k)), errors.Is(err, k), k == kind)
	}
	same(t, what+", beside the error", got, api.Assoc{})
}

func links(members string) string { return `{"applinks":{` + members + `}}` }

// one is a document with one detail, of the app a and more members.
func one(members string) string {
	return links(`"details":[{"appID":"` + team + `.a",` + members + `}]`)
}

// rule is a document with one component.
func rule(members string) string { return one(`"components":[{` + members + `}]`) }

func ofA(rules ...api.Rule) api.Assoc {
	return api.Assoc{Details: []api.Detail{{Apps: []api.AppID{appA}, Rules: rules}}}
}

// list is a list of so many values of a JSON text.
func list(n int, value string) string {
	return "[" + strings.Join(slices.Repeat([]string{value}, n), ",") + "]"
}

// object is an object of so many members, of keys that aren't alike.
func object(n int, keys, value string) string {
	var parts []string
	for i := range n {
		parts = append(parts, `"`+keys+strconv.Itoa(i)+`":`+value)
	}
	return "{" + strings.Join(parts, ",") + "}"
}

// P20.1, and the chapter's first example.
func TestDecode(t *testing.T) {
	decodes(t, `{"applinks":{"details":[{"appIDs":["ABCDE12345.a"],"components":[{"/":"/buy/*"}]}]}}`, ofA(api.Rule{Path: "/buy/*", HasPath: true}))
	for _, doc := range []string{links(""), links(`"details":[]`), links(`"details":{}`), links(`"substitutionVariables":{}`), links(`"defaults":{}`), ` { "x" : [ {} , null ] , "applinks" : { "apps" : [ ] , "y" : 1 } } `, `{"applinks":1,"applinks":{}}`} {
		decodes(t, doc, api.Assoc{})
	}
	decodes(t, links(`"details":[{"appIDs":["`+team+`.a","0123456789.a"],"x":1},{"appID":"`+team+`.b.c-d","components":[{},{"/":"*","x":[]}]}],"substitutionVariables":{"b":["1","2"],"a":[]}`), api.Assoc{
		Details: []api.Detail{{Apps: []api.AppID{appA, appC}}, {Apps: []api.AppID{appB}, Rules: []api.Rule{{}, {Path: "*", HasPath: true}}}},
		Vars:    []api.Var{{Name: "b", Values: []string{"1", "2"}}, {Name: "a"}},
	})
	// What is told by escapes is what it stands for.
	decodes(t, `{"\u0061pplinks":{"details":[{"appI\u0044":"`+team+`\u002ea","components":[{"\/":"\u00e9\n\ud83d\ude00"}]}]}}`, ofA(api.Rule{Path: "é\n😀", HasPath: true}))
}

// P20.1: the apps of a detail, in their order.
func TestDecodeApps(t *testing.T) {
	a, b, c := `"`+team+`.a"`, `"`+team+`.b.c-d"`, `"0123456789.a"`
	for members, want := range map[string][]api.AppID{
		`"appID":` + a: {appA}, `"appIDs":[` + a + `]`: {appA}, `"appID":` + a + `,"appIDs":[` + b + `,` + c + `]`: {appB, appC, appA}, `"appIDs":[` + a + `,` + a + `],"appID":` + a: {appA, appA, appA}, `"appIDs":[],"appID":` + c: {appC},
		`"appIDs":[1],"appIDs":[` + b + `]`: {appB}, `"appID":1,"appID":` + c: {appC}, `"appID":` + a + `,"appid":1,"AppIDs":2,"appids":3`: {appA},
		`"appID":"` + team + `.` + strings.Repeat("x", 155) + `"`: {{Team: team, Bundle: strings.Repeat("x", 155)}},
	} {
		same(t, members, decode(t, links(`"details":[{`+members+`}]`)).Details[0].Apps, want)
		same(t, members+" with a key", decode(t, links(`"details":{"0123456789.z":{`+members+`}}`)).Details[0].Apps, append([]api.AppID{{Team: "0123456789", Bundle: "z"}}, want...))
	}
	decodes(t, links(`"details":{`+b+`:{},`+a+`:{"paths":["/x"]},`+b+`:{"appIDs":[]},`+c+`:{"appIDs":[`+c+`],"components":[{}]}}`), api.Assoc{Details: []api.Detail{
		{Apps: []api.AppID{appA}, Rules: []api.Rule{{Path: "/x", HasPath: true}}}, {Apps: []api.AppID{appB}}, {Apps: []api.AppID{appC, appC}, Rules: []api.Rule{{}}},
	}})
}

// P20.1: what a component tells.
func TestDecodeComponent(t *testing.T) {
	for members, want := range map[string]api.Rule{
		``:              {},
		`"/":"/a"`:      {Path: "/a", HasPath: true},
		`"/":""`:        {HasPath: true},
		`"?":"a=*"`:     {Query: "a=*", HasQuery: true},
		`"?":""`:        {HasQuery: true},
		`"#":"f"`:       {Fragment: "f", HasFragment: true},
		`"#":""`:        {HasFragment: true},
		`"?":{}`:        {},
		`"?":{"a":"*"}`: {Items: []api.Item{{Name: "a", Value: "*", Has: true}}},
		`"?":{"b":"1","a":"","b":"2","*":"?","":"x","$(":"y"}`: {Items: []api.Item{{Name: "a", Has: true}, {Name: "b", Value: "2", Has: true}, {Name: "*", Value: "?", Has: true}, {Value: "x", Has: true}, {Name: "$(", Value: "y", Has: true}}},
		`"?":{"a":"1"},"?":"b"`:                                {Query: "b", HasQuery: true},
		`"?":"b","?":{"a":"1"}`:                                {Items: []api.Item{{Name: "a", Value: "1", Has: true}}},
		`"exclude":true`:                                       {Exclude: true},
		`"exclude":false`:                                      {},
		`"caseSensitive":false`:                                {Fold: true},
		`"caseSensitive":true`:                                 {},
		`"percentEncoded":false`:                               {Decoded: true},
		`"percentEncoded":true`:                                {},
		`"comment":"x"`:                                        {},
		`"comment":"$(huh)","x":"$(huh)","Exclude":true,"path":1`:                                          {},
		`"/":"$(lang)/$","?":{"q":"$(digit)"},"#":"$(alpha)"`:                                              {Path: "$(lang)/$", HasPath: true, Items: []api.Item{{Name: "q", Value: "$(digit)", Has: true}}, Fragment: "$(alpha)", HasFragment: true},
		`"percentEncoded":false,"caseSensitive":false,"exclude":true,"#":"c","?":"b","/":"a","comment":""`: {Path: "a", HasPath: true, Query: "b", HasQuery: true, Fragment: "c", HasFragment: true, Exclude: true, Fold: true, Decoded: true},
		`"/":"NOT /x"`:           {Path: "NOT /x", HasPath: true},
		`"/":"` + long[1:] + `"`: {Path: long[1:], HasPath: true},
	} {
		decodes(t, rule(members), ofA(want))
	}
}

// P20.1: a flag holds till another one stands further within.
func TestDecodeFlags(t *testing.T) {
	flags := func(c, p string) string {
		var parts []string
		if c != "" {
			parts = append(parts, `"caseSensitive":`+c)
		}
		if p != "" {
			parts = append(parts, `"percentEncoded":`+p)
		}
		return strings.Join(parts, ",")
	}
	holds := func(told ...string) bool {
		for _, s := range told {
			if s != "" {
				return s == "true"
			}
		}
		return true
	}
	tells := []string{"", "true", "false"}
	for n := range 729 {
		at := func(i int) string { return tells[n/[]int{1, 3, 9, 27, 81, 243}[i]%3] }
		doc := links(`"details":[{"appID":"` + team + `.a","components":[{` + flags(at(0), at(1)) + `}],"defaults":{` + flags(at(2), at(3)) + `}}],"defaults":{` + flags(at(4), at(5)) + `}`)
		decodes(t, doc, ofA(api.Rule{Fold: !holds(at(0), at(2), at(4)), Decoded: !holds(at(1), at(3), at(5))}))
	}
	// Those of one detail, or component, don't hold in another one.
	a := decode(t, links(`"details":[{"appID":"`+team+`.a","defaults":{"caseSensitive":false},"components":[{"percentEncoded":false},{}]},{"appID":"`+team+`.a","components":[{}]}]`))
	same(t, "flags of others", []api.Rule{a.Details[0].Rules[0], a.Details[0].Rules[1], a.Details[1].Rules[0]}, []api.Rule{{Fold: true, Decoded: true}, {Fold: true}, {}})
}

// P20.1: elder paths are looked at without components alone, and have their Path alone.
func TestDecodePaths(t *testing.T) {
	for members, want := range map[string][]api.Rule{
		`"paths":[]`: nil, `"paths":["/a","NOT /b","*"]`: {{Path: "/a", HasPath: true}, {Path: "/b", HasPath: true, Exclude: true}, {Path: "*", HasPath: true}},
		`"paths":["","NOT ","NOT","NOT/a","not /a"," NOT /a","NOT  /a","NOT\t/a","NOT NOT /a"]`: {{HasPath: true}, {HasPath: true, Exclude: true}, {Path: "NOT", HasPath: true}, {Path: "NOT/a", HasPath: true}, {Path: "not /a", HasPath: true}, {Path: " NOT /a", HasPath: true}, {Path: " /a", HasPath: true, Exclude: true}, {Path: "NOT\t/a", HasPath: true}, {Path: "NOT /a", HasPath: true, Exclude: true}},
		`"paths":["$(huh)","$("]`: {{Path: "$(huh)", HasPath: true}, {Path: "$(", HasPath: true}},
		`"paths":["/a"],"defaults":{"caseSensitive":false,"percentEncoded":false}`: {{Path: "/a", HasPath: true}},
		`"components":[{"#":"x"}],"paths":["/a"]`:                                  {{Fragment: "x", HasFragment: true}},
		`"paths":1,"components":[]`:                                                nil, `"components":[],"paths":[1,"` + long + `"]`: nil,
		`"paths":["NOT ` + long[1:] + `"]`: {{Path: long[1:], HasPath: true, Exclude: true}},
	} {
		decodes(t, one(members), ofA(want...))
	}
	decodes(t, links(`"defaults":{"caseSensitive":false,"percentEncoded":false},"details":[{"appID":"`+team+`.a","paths":["/a"]}]`), ofA(api.Rule{Path: "/a", HasPath: true}))
}

// P20.1: variables are those of the whole document, wherever they stand in it.
func TestDecodeVariables(t *testing.T) {
	v := []api.Var{{Name: "food", Values: []string{"pizza", "taco*"}}, {Name: "é", Values: []string{""}}}
	a := ofA(api.Rule{Path: "/$(food)$(é)", HasPath: true})
	a.Vars = v
	details := `"details":[{"appID":"` + team + `.a","components":[{"/":"/$(food)$(é)"}]}]`
	decodes(t, links(`"substitutionVariables":{"food":["pizza","taco*"],"é":[""]},`+details), a)
	decodes(t, links(details+`,"substitutionVariables":{"food":["pizza","taco*"],"é":[""]}`), a)
	decodes(t, links(details+`,"substitutionVariables":{"é":1,"food":["pizza","taco*"],"é":[""],"é":[""]}`), a)
}

// P20.1: the errors of values that are wrong, alone.
func TestDecodeWrong(t *testing.T) {
	for doc, kind := range map[string]api.Errno{
		"¦[]": api.ErrKind, "¦1": api.ErrKind, " ¦null": api.ErrKind, "¦\"applinks\"": api.ErrKind, "\n¦{}": api.ErrName, "¦{\"appLinks\":{}}": api.ErrName, `¦{"x":{"applinks":{}}}`: api.ErrName, "{\"applinks\":¦1}": api.ErrKind, "{\"applinks\": ¦[]}": api.ErrKind, "{\"applinks\":¦null}": api.ErrKind, `{"applinks":{},"applinks":¦true}`: api.ErrKind,
		links(`"defaults":¦1`): api.ErrKind, links(`"defaults":¦[]`): api.ErrKind, links(`"defaults":¦null`): api.ErrKind, links(`"defaults":{"caseSensitive":¦1}`): api.ErrKind, links(`"defaults":{"caseSensitive":¦"true"}`): api.ErrKind, links(`"defaults":{"percentEncoded":¦null}`): api.ErrKind, links(`"defaults":{"percentEncoded":¦{}}`): api.ErrKind,
		links(`"substitutionVariables":¦[]`): api.ErrKind, links(`"substitutionVariables":¦"x"`): api.ErrKind, links(`"substitutionVariables":{"a":¦"x"}`): api.ErrKind, links(`"substitutionVariables":{"a":¦{}}`): api.ErrKind, links(`"substitutionVariables":{"a":["x",¦1,[]]}`): api.ErrKind, links(`"substitutionVariables":{"a":["x"],"b":¦null}`): api.ErrKind,
		links(`"substitutionVariables":{"":¦[]}`): api.ErrForm, links(`"substitutionVariables":{"a$":¦["x"]}`): api.ErrForm, links(`"substitutionVariables":{"lang":¦["x"]}`): api.ErrForm, links(`"substitutionVariables":{"` + strings.Repeat("a", 65) + `":¦["x"]}`): api.ErrForm, links(`"substitutionVariables":{"a":¦["x","$"]}`): api.ErrForm, links(`"substitutionVariables":{"a":¦["` + long + `"]}`): api.ErrForm, links(`"substitutionVariables":{"a":¦` + list(257, `""`) + `}`): api.ErrForm,
		links(`"substitutionVariables":¦` + object(65, "a", `[]`)): api.ErrMany,
		links(`"details":¦1`): api.ErrKind, links(`"details":¦null`): api.ErrKind, links(`"details":¦"x"`): api.ErrKind, links(`"details":[¦1]`): api.ErrKind, links(`"details":[¦[]]`): api.ErrKind, links(`"details":{"` + team + `.a":¦[]}`): api.ErrKind, links(`"details":{"` + team + `.a":{},"x":¦null}`): api.ErrKind,
		links(`"details":¦` + list(257, `{"appID":"`+team+`.a"}`)): api.ErrMany, links(`"details":¦` + object(257, team+".a", `{}`)): api.ErrMany,
		links(`"details":[¦{}]`): api.ErrName, links(`"details":[{"appID":"` + team + `.a"},¦{"appIDs":[]}]`): api.ErrName, links(`"details":[ ¦{"appid":"` + team + `.a"}]`): api.ErrName,
		links(`"details":{"x":¦{}}`): api.ErrForm, links(`"details":{"":¦{}}`): api.ErrForm, links(`"details":{"` + team + `.a":{},"` + team + `":¦{"appID":"` + team + `.a"}}`): api.ErrForm,
		links(`"details":[{"appID":¦1}]`): api.ErrKind, links(`"details":[{"appID":¦["` + team + `.a"]}]`): api.ErrKind, links(`"details":[{"appID":¦null,"appIDs":["` + team + `.a"]}]`): api.ErrKind, links(`"details":[{"appIDs":¦"` + team + `.a"}]`): api.ErrKind, links(`"details":[{"appIDs":¦{}}]`): api.ErrKind, links(`"details":[{"appIDs":["` + team + `.a",¦1]}]`): api.ErrKind,
		links(`"details":[{"appID":¦"x"}]`): api.ErrForm, links(`"details":[{"appID":¦"` + team + `."}]`): api.ErrForm, links(`"details":[{"appIDs":["` + team + `.a",¦"` + team + `.a*"]}]`): api.ErrForm, links(`"details":[{"appIDs":[¦""]}]`): api.ErrForm, links(`"details":[{"appID":¦"` + team + "." + strings.Repeat("x", 156) + `"}]`): api.ErrForm,
		one(`"defaults":¦1`): api.ErrKind, one(`"defaults":{"caseSensitive":¦0}`): api.ErrKind, one(`"defaults":{"percentEncoded":¦"false"}`): api.ErrKind,
		one(`"components":¦{}`): api.ErrKind, one(`"components":¦null`): api.ErrKind, one(`"components":¦null,"paths":[]`): api.ErrKind, one(`"components":[{},¦"x"]`): api.ErrKind, one(`"components":[¦[]]`): api.ErrKind, one(`"paths":¦"*"`): api.ErrKind, one(`"paths":¦{}`): api.ErrKind, one(`"paths":["*",¦1]`): api.ErrKind, one(`"paths":[¦{}]`): api.ErrKind,
		one(`"components":¦` + list(513, "{}")): api.ErrMany, one(`"paths":¦` + list(513, `"*"`)): api.ErrMany,
		rule(`"/":¦1`): api.ErrKind, rule(`"/":¦{}`): api.ErrKind, rule(`"?":¦1`): api.ErrKind, rule(`"?":¦[]`): api.ErrKind, rule(`"?":¦null`): api.ErrKind, rule(`"?":{"a":"1","b":¦2}`): api.ErrKind, rule(`"?":{"a":¦null}`): api.ErrKind, rule(`"#":¦false`): api.ErrKind, rule(`"exclude":¦"true"`): api.ErrKind, rule(`"exclude":¦1`): api.ErrKind, rule(`"caseSensitive":¦null`): api.ErrKind, rule(`"percentEncoded":¦0`): api.ErrKind, rule(`"comment":¦1`): api.ErrKind, rule(`"comment":¦null`): api.ErrKind,
		rule(`"/":¦"$(huh)"`): api.ErrForm, rule(`"/":¦"/$("`): api.ErrForm, rule(`"/":¦"` + long + `"`): api.ErrForm, rule(`"?":¦"$(huh)"`): api.ErrForm, rule(`"?":{"a":"*","b":¦"$(huh)"}`): api.ErrForm, rule(`"?":{"a":¦"` + long + `"}`): api.ErrForm, rule(`"#":¦"$(alpha"`): api.ErrForm, rule(`"#":¦"` + long + `"`): api.ErrForm,
	} {
		refuses(t, doc, kind)
	}
}

// P20.1: of several wrong values the one that is read first counts, wherever the others stand.
func TestDecodeOrder(t *testing.T) {
	for doc, kind := range map[string]api.Errno{
		links(`"details":1,"substitutionVariables":1,"defaults":¦1`): api.ErrKind, links(`"details":1,"substitutionVariables":¦1`): api.ErrKind, links(`"details":1,"substitutionVariables":{"alpha":¦[]}`): api.ErrForm, links(`"defaults":{"percentEncoded":1,"caseSensitive":¦1}`): api.ErrKind,
		links(`"substitutionVariables":{"a":¦1,"alpha":[]}`): api.ErrKind, links(`"substitutionVariables":{"alpha":¦[],"a":1}`): api.ErrForm, links(`"substitutionVariables":{"alpha":[¦1]}`): api.ErrKind, links(`"substitutionVariables":{"a":["$",¦1]}`): api.ErrKind, links(`"substitutionVariables":¦` + object(65, "$", `1`)): api.ErrMany, links(`"substitutionVariables":{"a":1,"b":¦{},"a":2}`): api.ErrKind,
		links(`"details":¦` + list(257, `1`)): api.ErrMany, links(`"details":¦` + object(257, "x", `1`)): api.ErrMany, links(`"details":[¦{},1]`): api.ErrName, links(`"details":[¦1,{}]`): api.ErrKind, links(`"details":{"x":¦{},"y":1}`): api.ErrForm, links(`"details":{"x":¦1}`): api.ErrKind,
		links(`"details":{"x":¦{"appIDs":1}}`): api.ErrForm, links(`"details":[{"appID":1,"appIDs":¦1}]`): api.ErrKind, links(`"details":[{"appID":1,"appIDs":[¦"x"]}]`): api.ErrForm, links(`"details":[{"appIDs":[¦"x",1]}]`): api.ErrForm, links(`"details":[{"appIDs":[¦1,"x"]}]`): api.ErrKind, links(`"details":[{"appIDs":[],"appID":¦"x"}]`): api.ErrForm,
		links(`"details":[¦{"defaults":1,"components":1}]`): api.ErrName, links(`"details":[{"components":1,"defaults":1,"appID":¦1}]`): api.ErrKind, one(`"components":1,"defaults":¦1`): api.ErrKind, one(`"paths":1,"components":¦1`): api.ErrKind, one(`"components":¦` + list(513, "1")): api.ErrMany, one(`"paths":¦` + list(513, "1")): api.ErrMany,
		one(`"components":[{"comment":¦1},1]`): api.ErrKind, one(`"paths":[¦"` + long + `",1]`): api.ErrForm, one(`"paths":[¦1,"` + long + `"]`): api.ErrKind,
		rule(`"?":1,"/":¦"$("`): api.ErrForm, rule(`"#":1,"?":¦"$("`): api.ErrForm, rule(`"exclude":1,"#":¦"$("`): api.ErrForm, rule(`"caseSensitive":1,"exclude":¦1`): api.ErrKind, rule(`"percentEncoded":1,"caseSensitive":¦1`): api.ErrKind, rule(`"comment":1,"percentEncoded":¦1`): api.ErrKind, rule(`"#":1,"?":{"b":¦"$(","a":1}`): api.ErrForm, rule(`"?":{"b":¦1,"a":"$("}`): api.ErrKind, rule(`"?":{"a":1,"b":¦2,"a":3}`): api.ErrKind,
		links(`"details":[{"appID":"` + team + `.a","components":[{"/":¦"$("}]},1]`): api.ErrForm,
	} {
		refuses(t, doc, kind)
	}
}

// P20.1: as many as there may be.
func TestDecodeMost(t *testing.T) {
	same(t, "how many variables", len(decode(t, links(`"substitutionVariables":`+object(64, "a", `[]`))).Vars), 64)
	same(t, "how many values", len(decode(t, links(`"substitutionVariables":{"a":`+list(256, `""`)+`}`)).Vars[0].Values), 256)
	same(t, "how many details", len(decode(t, links(`"details":`+list(256, `{"appID":"`+team+`.a"}`))).Details), 256)
	same(t, "how many details by keys", len(decode(t, links(`"details":`+object(256, team+".a", `{}`))).Details), 256)
	same(t, "how many components", len(decode(t, one(`"components":`+list(512, "{}"))).Details[0].Rules), 512)
	same(t, "how many paths", len(decode(t, one(`"paths":`+list(512, `"*"`))).Details[0].Rules), 512)
	same(t, "how many items", len(decode(t, rule(`"?":`+object(999, "a", `""`))).Details[0].Rules[0].Items), 999)
	same(t, "how many apps", len(decode(t, links(`"details":[{"appIDs":`+list(999, `"`+team+`.a"`)+`}]`)).Details[0].Apps), 999)
	// Of a key that is there twice, the last one alone is looked at, and counts.
	same(t, "how many variables of keys that are alike", len(decode(t, links(`"substitutionVariables":{"a1":0,`+object(64, "a", `[]`)[1:])).Vars), 64)
}

// P20.1: a text beyond the bounds, and one that is none of JSON's.
func TestDecodeBounds(t *testing.T) {
	fill := func(open, shut string, n int) string { return strings.Repeat(open, n) + strings.Repeat(shut, n) }
	padded := func(doc string, n int) string { return doc + strings.Repeat(" ", n-len(doc)) }
	for _, doc := range []string{padded(links(""), 131072), links(`"x":` + fill("[", "]", 62)), links(`"x":` + list(19997, "1"))} {
		decodes(t, doc, api.Assoc{})
	}
	for doc, kind := range map[string]api.Errno{
		padded(links(""), 131073): api.ErrLong, strings.Repeat(" ", 131073): api.ErrLong, strings.Repeat("\xff", 131073): api.ErrLong,
		links(`"x":` + fill("[", "]", 63)): api.ErrDeep, fill("[", "]", 65): api.ErrDeep, links(`"x":` + list(19998, "1")): api.ErrMany, list(20000, "1"): api.ErrMany,
		"": api.ErrShort, "{": api.ErrShort, `{"applinks"`: api.ErrShort, "}": api.ErrForm, "{}x": api.ErrForm, "\ufeff{}": api.ErrForm, links(`"x":1,`): api.ErrForm, `{"applinks":1}}`: api.ErrForm, "{\"\xff\":1}": api.ErrUTF, `{"applinks":1 "x"}`: api.ErrForm,
	} {
		got, err := aasa.Decode([]byte(doc))
		wrong(t, "Decode of "+doc, err, api.ErrDoc, 0)
		_, inner := jsonp.Parse([]byte(doc), bounds)
		same(t, "the error within that of "+doc, errors.Unwrap(err), inner)
		same(t, doc+", that its error is of the kind", errors.Is(err, kind), true)
		same(t, "beside the error of "+doc, got, api.Assoc{})
	}
}

// P20.2
func TestLegacy(t *testing.T) {
	for s, want := range map[string]api.Rule{
		"": {HasPath: true}, "/a": {Path: "/a", HasPath: true}, "NOT /a": {Path: "/a", HasPath: true, Exclude: true}, "NOT ": {HasPath: true, Exclude: true}, "NOT": {Path: "NOT", HasPath: true}, "NOT/a": {Path: "NOT/a", HasPath: true}, "not /a": {Path: "not /a", HasPath: true}, " NOT /a": {Path: " NOT /a", HasPath: true}, "NOT  a": {Path: " a", HasPath: true, Exclude: true}, "NOT\t/a": {Path: "NOT\t/a", HasPath: true}, "NOT\n/a": {Path: "NOT\n/a", HasPath: true}, "NOT\u00a0/a": {Path: "NOT\u00a0/a", HasPath: true}, "NOT NOT *": {Path: "NOT *", HasPath: true, Exclude: true}, "/NOT /a": {Path: "/NOT /a", HasPath: true},
		"*?é€😀": {Path: "*?é€😀", HasPath: true}, "$(": {Path: "$(", HasPath: true}, "NOT $(huh)": {Path: "$(huh)", HasPath: true, Exclude: true}, long[1:]: {Path: long[1:], HasPath: true}, "NOT " + long[1:]: {Path: long[1:], HasPath: true, Exclude: true},
	} {
		got, err := aasa.Legacy(s)
		same(t, "the error of Legacy of "+s, err, nil)
		same(t, "Legacy of "+s, got, want)
	}
	for s, inner := range map[string]string{"\xff": "\xff", "NOT \xff": "\xff", "a\xc0\x80": "a\xc0\x80", "NOT a\xe2\x82": "a\xe2\x82", "NOT\xff": "NOT\xff", long: long, "NOT " + long: long, long + "\xff": long} {
		got, err := aasa.Legacy(s)
		wrong(t, "Legacy of "+s, err, api.ErrForm, 0)
		same(t, "the error within that of "+s, errors.Unwrap(err), glob.Check(inner))
		same(t, "beside the error of "+s, got, api.Rule{})
	}
}

// P20.2: in a document the text is wrong, with the same error within.
func TestDecodeLegacy(t *testing.T) {
	for _, s := range []string{long, "NOT " + long} {
		_, err := aasa.Decode([]byte(one(`"paths":["` + s + `"]`)))
		same(t, "whether the document's error is layer 15's, too", errors.Is(err, api.ErrForm) && errors.Is(err, api.ErrLong), true)
	}
}

// P20.3
func TestApps(t *testing.T) {
	for _, c := range []struct {
		details []api.Detail
		want    []api.AppID
	}{
		{nil, nil}, {[]api.Detail{{}, {}}, nil}, {[]api.Detail{{Apps: []api.AppID{appB, appA}}}, []api.AppID{appB, appA}}, {[]api.Detail{{Apps: []api.AppID{appA, appA}}, {Apps: []api.AppID{appA}}}, []api.AppID{appA}},
		{[]api.Detail{{Apps: []api.AppID{appC}}, {}, {Apps: []api.AppID{appA, appC, appB}}, {Apps: []api.AppID{appB, appA, {}}}}, []api.AppID{appC, appA, appB, {}}},
		// Names are held against each other part by part, and as they are.
		{[]api.Detail{{Apps: []api.AppID{{Team: "a.b", Bundle: "c"}, {Team: "a", Bundle: "b.c"}, {Team: "A", Bundle: "b.c"}, {Bundle: "\xff"}, {Bundle: "\xff"}, {Team: "\xff"}}}}, []api.AppID{{Team: "a.b", Bundle: "c"}, {Team: "a", Bundle: "b.c"}, {Team: "A", Bundle: "b.c"}, {Bundle: "\xff"}, {Team: "\xff"}}},
	} {
		got := aasa.Apps(api.Assoc{Details: c.details, Vars: []api.Var{{Name: "x"}}})
		if !slices.Equal(got, c.want) {
			t.Errorf("Apps of %v: got %v, want %v", c.details, got, c.want)
		}
	}
}

// writes asks for the document of an association.
func writes(t *testing.T, a api.Assoc, want string) {
	t.Helper()
	got, err := aasa.Write(a)
	same(t, "the error of Write for "+want, err, nil)
	same(t, "Write", got, want)
}

// P20.4
func TestWrite(t *testing.T) {
	writes(t, api.Assoc{}, `{"applinks":{"details":[]}}`)
	writes(t, api.Assoc{Vars: []api.Var{{Name: "b", Values: []string{"2", "1", "2"}}, {Name: "B"}, {Name: "a", Values: []string{"\"\n"}}, {}}}, `{"applinks":{"details":[],"substitutionVariables":{"":[],"B":[],"a":["\"\n"],"b":["2","1","2"]}}}`)
	writes(t, api.Assoc{Details: []api.Detail{{}, {Apps: []api.AppID{appB, appA, appA}}, {Apps: []api.AppID{{}}, Rules: []api.Rule{{}, {}}}}}, `{"applinks":{"details":[{"appIDs":[],"components":[]},{"appIDs":["ABCDE12345.b.c-d","ABCDE12345.a","ABCDE12345.a"],"components":[]},{"appIDs":["."],"components":[{},{}]}]}}`)
	items := []api.Item{{Name: "b", Value: "2"}, {Name: "a", Value: "1", Has: true}, {Name: "é", Has: true}, {Name: "B"}}
	for want, x := range map[string]api.Rule{
		`{}`:                                    {},
		`{"/":"/a"}`:                            {Path: "/a", HasPath: true},
		`{"/":""}`:                              {HasPath: true},
		`{"?":"q"}`:                             {Query: "q", HasQuery: true},
		`{"?":""}`:                              {HasQuery: true},
		`{"#":"f"}`:                             {Fragment: "f", HasFragment: true},
		`{"#":""}`:                              {HasFragment: true},
		`{"?":{"B":"","a":"1","b":"2","é":""}}`: {Items: items},
		`{"?":"x"}`:                             {Query: "x", HasQuery: true, Items: items},
		`{"exclude":true}`:                      {Exclude: true},
		`{"caseSensitive":false}`:               {Fold: true},
		`{"percentEncoded":false}`:              {Decoded: true},
		`{"#":"c","/":"a","?":"b","caseSensitive":false,"exclude":true,"percentEncoded":false}`: {Path: "a", HasPath: true, Query: "b", HasQuery: true, Fragment: "c", HasFragment: true, Exclude: true, Fold: true, Decoded: true},
		`{"/":"\"\\/\u001Fé😀$("}`: {Path: "\"\\/\x1fé😀$(", HasPath: true},
	} {
		writes(t, ofA(x), `{"applinks":{"details":[{"appIDs":["ABCDE12345.a"],"components":[`+want+`]}]}}`)
	}
	// What isn't there isn't written.
	writes(t, ofA(api.Rule{Path: "a", Query: "b", Fragment: "c"}), `{"applinks":{"details":[{"appIDs":["ABCDE12345.a"],"components":[{}]}]}}`)
}

// P20.4: texts that aren't characters' bytes are told ahead of names that are there twice, wherever they stand.
func TestWriteErrors(t *testing.T) {
	rule := func(x api.Rule) api.Assoc { return ofA(api.Rule{}, x) }
	bad, twice := []api.Item{{Name: "a", Value: "\xff"}}, []api.Item{{Name: "a", Value: "1"}, {Name: "b"}, {Name: "a", Value: "2", Has: true}}
	for what, c := range map[string]struct {
		a    api.Assoc
		kind api.Errno
	}{
		"a team": {api.Assoc{Details: []api.Detail{{Apps: []api.AppID{appA, {Team: "\xff"}}}}}, api.ErrUTF}, "a bundle": {api.Assoc{Details: []api.Detail{{}, {Apps: []api.AppID{{Team: team, Bundle: "a\xc0\x80"}}}}}, api.ErrUTF},
		"a path": {rule(api.Rule{Path: "\xff", HasPath: true}), api.ErrUTF}, "a query": {rule(api.Rule{Query: "\xe2\x82", HasQuery: true}), api.ErrUTF}, "a fragment": {rule(api.Rule{Fragment: "\xed\xa0\x80", HasFragment: true}), api.ErrUTF}, "an item's name": {rule(api.Rule{Items: []api.Item{{Name: "\xff"}}}), api.ErrUTF}, "an item's value": {rule(api.Rule{Items: bad}), api.ErrUTF},
		"a variable's name": {api.Assoc{Vars: []api.Var{{Name: "a"}, {Name: "\xff"}}}, api.ErrUTF}, "a variable's value": {api.Assoc{Vars: []api.Var{{Name: "a", Values: []string{"", "\xff"}}}}, api.ErrUTF},
		"variables": {api.Assoc{Vars: []api.Var{{Name: "a"}, {Name: "b"}, {Name: "a", Values: []string{"x"}}}}, api.ErrThere}, "variables without names": {api.Assoc{Vars: make([]api.Var, 2)}, api.ErrThere}, "items": {rule(api.Rule{Items: twice}), api.ErrThere}, "items that are alike": {rule(api.Rule{Items: make([]api.Item, 2)}), api.ErrThere},
		"items, and a value behind them": {api.Assoc{Details: rule(api.Rule{Items: twice}).Details, Vars: []api.Var{{Name: "a", Values: []string{"\xff"}}}}, api.ErrUTF}, "names that are wrong twice": {api.Assoc{Vars: []api.Var{{Name: "\xff"}, {Name: "\xff"}}}, api.ErrUTF}, "items that are wrong twice": {rule(api.Rule{Items: append(twice, bad...)}), api.ErrUTF},
		"items, and a rule's path behind them": {ofA(api.Rule{Items: twice}, api.Rule{Path: "\xff", HasPath: true}), api.ErrUTF}, "variables, and an app": {api.Assoc{Details: []api.Detail{{Apps: []api.AppID{{Team: "\xff"}}}}, Vars: make([]api.Var, 2)}, api.ErrUTF},
	} {
		got, err := aasa.Write(c.a)
		wrong(t, what, err, c.kind, 0)
		same(t, "beside the error of "+what, got, "")
	}
	// What isn't written isn't looked at, and names aren't alike where they stand in two places.
	for want, a := range map[string]api.Assoc{
		`[{},{}]`: rule(api.Rule{Path: "\xff", Query: "\xff", Fragment: "\xff"}), `[{},{"?":"q"}]`: rule(api.Rule{Query: "q", HasQuery: true, Items: append(twice, bad...)}),
		`[{"?":{"a":""}},{"?":{"a":""}}]`: ofA(api.Rule{Items: []api.Item{{Name: "a"}}}, api.Rule{Items: []api.Item{{Name: "a"}}}), `[{"?":{"A":"","a":""}}]`: ofA(api.Rule{Items: []api.Item{{Name: "a"}, {Name: "A"}}}),
	} {
		writes(t, a, `{"applinks":{"details":[{"appIDs":["ABCDE12345.a"],"components":`+want+`}]}}`)
	}
}

// ordered gives an association with its variables, and the Items of its rules, in the order of their names.
func ordered(a api.Assoc) api.Assoc {
	a = bare(a)
	slices.SortFunc(a.Vars, func(x, y api.Var) int { return strings.Compare(x.Name, y.Name) })
	for _, d := range a.Details {
		for _, x := range d.Rules {
			slices.SortFunc(x.Items, func(x, y api.Item) int { return strings.Compare(x.Name, y.Name) })
		}
	}
	return a
}

// P20.4: what Write gives is in its canonical form, and Decode of it is the association.
func TestDecodeOfWrite(t *testing.T) {
	app := `"appID":"` + team + `.a"`
	for _, doc := range []string{
		links(""), links(`"details":{}`), one(`"x":1`), one(`"paths":["/a","NOT /b","","NOT "]`), rule(""), rule(`"?":{}`), rule(`"?":{"b":"1","a":"2","é":"","":"?"},"exclude":true`), rule(`"/":"","?":"","#":""`), rule(`"/":"\"\\\u0000é\ud83d\ude00","caseSensitive":false`),
		links(`"substitutionVariables":{"b":["1"],"a":[],"B":["\"","*"]}`), links(`"details":{"` + team + `.b":{` + app + `,"paths":["*"]},"` + team + `.a":{"components":[{"percentEncoded":false},{}],"defaults":{"caseSensitive":false}}}`),
		links(`"defaults":{"caseSensitive":false,"percentEncoded":false},"substitutionVariables":{"food":["pizza","taco*"],"a":["x"]},"details":[{"appIDs":["` + team + `.b","` + team + `.a"],` + app + `,"components":[{"/":"/$(food)/$(lang)","?":{"z":"$(a)","y":"$(food)"},"comment":"x"},{"#":"*","caseSensitive":true,"exclude":true},{"?":"$(a)","percentEncoded":true}]},{` + app + `}]`),
		links(`"details":` + list(256, `{`+app+`,"components":[{"?":{"b":"1","a":"2"}}]}`)),
	} {
		a := decode(t, doc)
		text, err := aasa.Write(a)
		same(t, "the error of Write for "+doc, err, nil)
		decodes(t, text, ordered(a))
		d, err := jsonp.Parse([]byte(text), bounds)
		if err != nil {
			t.Errorf("%.300q: %v", text, err)
			continue
		}
		form, err := canon.Write(d, 0)
		same(t, "the canonical form of "+text, form, text)
		same(t, "the error of the canonical form", err, nil)
		again, err := aasa.Write(decode(t, text))
		same(t, "Write again for "+doc, again, text)
		same(t, "the error of Write again", err, nil)
	}
}

// every is a document with all that there is.
const every = `{"applinks":{"defaults":{"caseSensitive":false},"substitutionVariables":{"food":["pizza","taco*"],"a":["x"]},"details":[{"appIDs":["ABCDE12345.b","ABCDE12345.a"],"components":[{"/":"/$(food)/$(lang)","?":{"z":"$(a)","y":"$(food)"}},{"#":"*"},{"?":{"b":"1","a":"2"}}]},{"appID":"ABCDE12345.c","paths":["NOT /x","*"]}]}}`

// P20.5: what is handed in stays, its spare room, too, and may be written over behind the call.
func TestArgumentsStay(t *testing.T) {
	b := append(make([]byte, 0, 4096), every...)
	a, err := aasa.Decode(b)
	same(t, "the error", err, nil)
	same(t, "the document", string(b), every)
	same(t, "its spare room", b[:cap(b)][len(b):], make([]byte, cap(b)-len(b)))
	clear(b)
	same(t, "the association", bare(a), decode(t, every))

	items := []api.Item{{Name: "b"}, {Name: "a"}, {Name: "0"}}[:2]
	vars := []api.Var{{Name: "b", Values: []string{"2", "1"}}, {Name: "a"}, {Name: "0"}}[:2]
	given := api.Assoc{Details: []api.Detail{{Apps: []api.AppID{appB, appA, appB}, Rules: []api.Rule{{Items: items}}}}, Vars: vars}
	text, err := aasa.Write(given)
	same(t, "the error", err, nil)
	apps := aasa.Apps(given)
	same(t, "the items", items[:3], []api.Item{{Name: "b"}, {Name: "a"}, {Name: "0"}})
	same(t, "the variables", vars[:3], []api.Var{{Name: "b", Values: []string{"2", "1"}}, {Name: "a"}, {Name: "0"}})
	same(t, "the apps that were given", given.Details[0].Apps, []api.AppID{appB, appA, appB})
	given.Details[0].Apps[0] = appC
	same(t, "the apps", apps, []api.AppID{appB, appA})
	clear(items)
	again, err := aasa.Write(given)
	same(t, "whether Write keeps what it was given", again == text || err == nil, false)
}

// share tells whether two texts lie in one memory.
func share(a, b string) bool {
	from := func(s string) uintptr { return uintptr(unsafe.Pointer(unsafe.StringData(s))) }
	return a != "" && b != "" && from(a) < from(b)+uintptr(len(b)) && from(b) < from(a)+uintptr(len(a))
}

// P20.5: lists of an answer share no room with one another, nor with those of another answer.
func TestAnswersAreNew(t *testing.T) {
	a, _ := aasa.Decode([]byte(every))
	other, _ := aasa.Decode([]byte(every))
	want := decode(t, every)
	for i, d := range a.Details {
		_ = append(d.Apps, appC)
		_ = append(d.Rules, api.Rule{Path: "x"})
		for _, x := range d.Rules {
			_ = append(x.Items, api.Item{Name: "x"})
		}
		same(t, "detail "+strconv.Itoa(i), bare(a), want)
	}
	for i, v := range a.Vars {
		_ = append(v.Values, "x")
		same(t, "variable "+strconv.Itoa(i), bare(a), want)
	}
	a.Details[0].Apps[0], a.Details[0].Rules[0].Path, a.Details[0].Rules[0].Items[0].Name, a.Vars[0].Values[0], a.Vars[1].Name = appC, "x", "x", "x", "x"
	same(t, "the other answer", bare(other), want)

	path := "NOT /abcdef"
	for _, s := range []string{path, path[4:]} {
		x, _ := aasa.Legacy(s)
		same(t, "whether the rule's path lies in the text", share(x.Path, s), false)
	}
	apps := aasa.Apps(other)
	same(t, "whether an app's name lies in the association", share(apps[0].Bundle, other.Details[0].Apps[0].Bundle) || share(apps[0].Team, other.Details[0].Apps[0].Team), false)
	_, first := aasa.Decode([]byte(" []"))
	_, second := aasa.Decode([]byte(" []"))
	first.(*api.Fault).At = 9
	wrong(t, "Decode", second, api.ErrDoc, 1)
}

// behind gives the place behind the value that begins at a place of a JSON text.
func behind(t *testing.T, doc string, at int) int {
	t.Helper()
	for deep := 0; ; {
		token, err := scan.Next([]byte(doc), at)
		if err != nil {
			t.Fatal(err)
		}
		switch token.Kind {
		case api.TokObject, api.TokList:
			deep++
		case api.TokEndObject, api.TokEndList:
			deep--
		}
		if at = token.To; deep == 0 {
			return at
		}
	}
}

// changed gives a document with others in the place of each of its values.
func changed(t *testing.T, doc string) []string {
	t.Helper()
	d, err := jsonp.Parse([]byte(doc), bounds)
	if err != nil {
		t.Fatal(err)
	}
	var docs []string
	for id := range d.Len() {
		n, _ := d.Node(id)
		for _, value := range []string{`null`, `true`, `-1e9`, `""`, `"$(x)"`, `[]`, `["$"]`, `[{}]`, `{}`, `{"":""}`, `{"":{}}`} {
			docs = append(docs, doc[:n.At]+value+doc[behind(t, doc, n.At):])
		}
	}
	return docs
}

// P20.1: whatever stands in the place of a value, the error, if there is one, is a document's, at a value.
func TestDecodeOfChanged(t *testing.T) {
	right := 0
	for _, doc := range changed(t, every) {
		a, err := aasa.Decode([]byte(doc))
		if err == nil {
			right++
			continue
		}
		var f *api.Fault
		errors.As(err, &f)
		same(t, "the error's kind, of "+doc, f.Kind, api.ErrDoc)
		same(t, "beside the error of "+doc, a, api.Assoc{})
		d, err := jsonp.Parse([]byte(doc), bounds)
		same(t, "the error of "+doc, err, nil)
		stands := false
		for id := range d.Len() {
			n, _ := d.Node(id)
			stands = stands || n.At == f.At
		}
		same(t, "whether a value stands at the error of "+doc, stands, true)
	}
	same(t, "whether some are right, and some wrong", right > 9 && right < 99, true)
}

// P1 and P2: all calls end, none panics, and a second run answers what the first one did.
func TestAnyArguments(t *testing.T) {
	docs := []string{"", every, every[:200], strings.Repeat("[", 131072), strings.Repeat("{\"applinks\":", 64), "\xff", links(`"substitutionVariables":` + object(64, "a", `["$"]`)), links(`"details":` + object(9999, "x", "1"))}
	docs = append(docs, changed(t, every)...)
	assocs := []api.Assoc{{}, {Details: make([]api.Detail, 3), Vars: make([]api.Var, 1)}, {Vars: make([]api.Var, 2)}, ofA(make([]api.Rule, 9)...), {Details: []api.Detail{{Apps: make([]api.AppID, 2), Rules: []api.Rule{{Items: make([]api.Item, 1), HasPath: true, HasQuery: true}}}}}}
	run := func() []any {
		var all []any
		keep := func(answers ...any) { all = append(all, answers...) }
		for _, doc := range docs {
			a, err := aasa.Decode([]byte(doc))
			keep(a, err)
			text, err := aasa.Write(a)
			keep(text, err, aasa.Apps(a))
			x, err := aasa.Legacy(doc)
			keep(x, err)
		}
		for _, a := range assocs {
			text, err := aasa.Write(a)
			keep(text, err, aasa.Apps(a))
		}
		return all
	}
	same(t, "the second run", run(), run())
}
