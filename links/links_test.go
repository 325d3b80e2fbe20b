package links_test

import (
	"errors"
	"reflect"
	"regexp"
	"slices"
	"strconv"
	"strings"
	"testing"
	"unsafe"

	"waybill/api"
	"waybill/canon"
	"waybill/jsonp"
	"waybill/links"
	"waybill/scan"
)

// marks stand in a document ahead of values that are wrong, and are taken out.
const marks = "①②③④⑤⑥⑦"

var (
	printA = api.Print{0x01, 0xab}
	printB = api.Print{31: 0xff}

	textA = "01:AB" + strings.Repeat(":00", 30)
	textB = "00" + strings.Repeat(":00", 30) + ":FF"

	bounds = api.Bounds{Bytes: api.MaxLinks, Deep: api.MaxDeep, Nodes: api.MaxNodes}

	// wrongTexts are no characters' bytes.
	wrongTexts = []string{"\xff", "\x80", "a\xc0\x80", "\xe2\x82", "\xed\xa0\x80", "\xf4\x90\x80\x80"}
)

func same(t *testing.T, what string, got, want any) {
	t.Helper()
	if !reflect.DeepEqual(got, want) {
		t.Errorf("%.300q: got %#v, want %#v", what, got, want)
	}
}

// bare makes lists without elements nil: these are one.
func bare(list []api.Statement) []api.Statement {
	var others []api.Statement
	for _, s := range list {
		s.Relations = append([]string(nil), s.Relations...)
		s.Prints = append([]api.Print(nil), s.Prints...)
		others = append(others, s)
	}
	return others
}

// wrong asks for the error itself, and for what errors.Is and errors.As tell of it.
func wrong(t *testing.T, what string, err error, kind api.Errno, at int) {
	t.Helper()
	var f *api.Fault
	if !errors.As(err, &f) {
		t.Errorf("%.300q: got %v, want errno %d at %d", what, err, kind, at)
		return
	}
	if f.Kind != kind || f.At != at || !errors.Is(err, kind) {
		t.Errorf("%.300q: got errno %d at %d, want %d at %d", what, f.Kind, f.At, kind, at)
	}
}

// decode asks for the statements of a document that is right.
func decode(t *testing.T, doc string) []api.Statement {
	t.Helper()
	list, err := links.Decode([]byte(doc))
	if err != nil {
		var f *api.Fault
		errors.As(err, &f)
		t.Errorf("Decode of %.300q: got %v at %d, from %v", doc, err, f.At, f.Inner)
	}
	return bare(list)
}

func decodes(t *testing.T, doc string, want ...api.Statement) {
	t.Helper()
	same(t, "Decode of "+doc, decode(t, doc), bare(want))
}

// refused asks for a document's error at a place, that it came from one of a kind alone, of these four, and for nothing beside it.
func refused(t *testing.T, doc string, kind api.Errno, at int) {
	t.Helper()
	got, err := links.Decode([]byte(doc))
	what := "Decode of " + doc
	wrong(t, what, err, api.ErrDoc, at)
	for _, k := range []api.Errno{api.ErrKind, api.ErrName, api.ErrMany, api.ErrForm} {
		same(t, what+", that its error is of "+strconv.Itoa(int(k)), errors.Is(err, k), k == kind)
	}
	same(t, what+", beside the error", len(got), 0)
}

// unmarked gives a document without marks, and the place at which one of these stood.
func unmarked(doc, mark string) (string, int) {
	ahead, _, _ := strings.Cut(doc, mark)
	without := func(s string) string {
		return strings.Map(func(c rune) rune {
			if strings.ContainsRune(marks, c) {
				return -1
			}
			return c
		}, s)
	}
	return without(doc), len(without(ahead))
}

// refuses asks for the error of a document at the mark ①.
func refuses(t *testing.T, marked string, kind api.Errno) {
	t.Helper()
	doc, at := unmarked(marked, "①")
	refused(t, doc, kind, at)
}

// app, web and other are statements of documents, with relations and more members of their targets.
func app(relations, members string) string {
	return `{"relation":` + relations + `,"target":{"namespace":"android_app",` + members + `}}`
}

func web(relations, members string) string {
	return `{"relation":` + relations + `,"target":{"namespace":"web",` + members + `}}`
}

func other(relations, space string) string {
	return `{"relation":` + relations + `,"target":{"namespace":` + space + `}}`
}

func include(s string) string { return `{"include":"` + s + `"}` }

// named is the members of an app's target with fingerprints.
func named(prints ...string) string {
	return `"package_name":"com.a","sha256_cert_fingerprints":` + texts(prints...)
}

func texts(list ...string) string {
	if len(list) == 0 {
		return "[]"
	}
	return `["` + strings.Join(list, `","`) + `"]`
}

// list is a list of so many values of a JSON text.
func list(n int, value string) string {
	return "[" + strings.Join(slices.Repeat([]string{value}, n), ",") + "]"
}

// P22.1, and the chapter's example.
func TestDecode(t *testing.T) {
	decodes(t, `[{"include":"https://X.com/a#b"}]`, api.Statement{Kind: api.StInclude, Site: "https://x.com/a"})
	decodes(t, `[]`)
	decodes(t, " [ \n] \t")
	decodes(t, `[`+app(texts(api.HandleURLs, "a/b"), named(textB, textA))+`,`+web(`[]`, `"site":"HTTPS://X.com:443/a?b#c"`)+`,`+other(`["x/y"]`, `"ios_app"`)+`,`+include("https://y.com")+`]`,
		api.Statement{Kind: api.StApp, Relations: []string{api.HandleURLs, "a/b"}, Package: "com.a", Prints: []api.Print{printB, printA}},
		api.Statement{Kind: api.StWeb, Site: "https://x.com"},
		api.Statement{Kind: api.StOther, Relations: []string{"x/y"}},
		api.Statement{Kind: api.StInclude, Site: "https://y.com/"})
	// What is told by escapes is what it stands for; other members aren't looked at; of a key that is there twice the last one counts.
	decodes(t, `[{"\u0069nclude":"https:\/\/x.com\u002fa"}]`, api.Statement{Kind: api.StInclude, Site: "https://x.com/a"})
	decodes(t, `[{"x":1,"Include":2,"relation":3,"relation":["a\/b"],"target":4,"target":{"namespace":"web","namespace":"\u0061ndroid_app","site":5,"package_name":"com.b","y":[{}],"sha256_cert_fingerprints":["`+textA+`"],"package_name":"com.a"}}]`,
		api.Statement{Kind: api.StApp, Relations: []string{"a/b"}, Package: "com.a", Prints: []api.Print{printA}})
	decodes(t, `[{"include":1,"include":"https://x/"}]`, api.Statement{Kind: api.StInclude, Site: "https://x/"})
}

// P22.1: beside an include nothing is looked at, and its URL has no fragment.
func TestDecodeIncludes(t *testing.T) {
	for s, want := range map[string]string{
		"https://x": "https://x/", "HTTPS://X.com.:443/%61%2f": "https://x.com/a%2F", "https://x:80/?q#f": "https://x:80/?q", "https://x/?#": "https://x/?", "https://x/#": "https://x/", "https://x#a#b?c": "https://x/", "https://0x7f.1/": "https://127.0.0.1/", "https://[::FFFF:1.2.3.4]/": "https://[::ffff:102:304]/", "https://x/é#é": "https://x/é",
	} {
		decodes(t, `[`+include(s)+`]`, api.Statement{Kind: api.StInclude, Site: want})
		decodes(t, `[{"relation":1,"target":2,"include":"`+s+`","x":null}]`, api.Statement{Kind: api.StInclude, Site: want})
	}
	for _, value := range []string{`1`, `null`, `true`, `[]`, `{}`, `["https://x/"]`} {
		refuses(t, `[{"include":①`+value+`}]`, api.ErrKind)
		refuses(t, `[{"relation":["a/b"],"target":{"namespace":"z"},"include":①`+value+`}]`, api.ErrKind)
	}
	for _, s := range []string{"", "x", "https", "https:", "https://", "https:/x", "http://x/", "app://x/", "app:x", "file:///x", "https://u@x/", "https://x:65536/", "https://x/%", "https://x/#%g0", "https://a b/", " https://x/", "https://x/ ", "https://x/" + strings.Repeat("a", 8183)} {
		refuses(t, `[{"include":①"`+s+`"}]`, api.ErrForm)
	}
	decodes(t, `[`+include("https://x/"+strings.Repeat("a", 8182))+`]`, api.Statement{Kind: api.StInclude, Site: "https://x/" + strings.Repeat("a", 8182)})
}

// P22.1: what each namespace asks for.
func TestDecodeTargets(t *testing.T) {
	for _, space := range []string{"", "x", "Web", "WEB", "web ", "android_App", "android", "android_app2", "é"} {
		decodes(t, `[{"relation":["a/b"],"target":{"site":1,"package_name":2,"sha256_cert_fingerprints":3,"namespace":"`+space+`"}}]`, api.Statement{Kind: api.StOther, Relations: []string{"a/b"}})
	}
	for s, want := range map[string]string{"https://x": "https://x", "http://X.com:80/a?b#c": "http://x.com", "https://x:80": "https://x:80", "http://x:443/": "http://x:443", "HTTPS://0x7f.1:/": "https://127.0.0.1", "https://[::1]:1": "https://[::1]:1"} {
		decodes(t, `[`+web(`[]`, `"site":"`+s+`","package_name":1`)+`]`, api.Statement{Kind: api.StWeb, Site: want})
	}
	for _, s := range []string{"", "x.com", "https:x", "app://x/", "ftp://x/", "http://", "http://u@x/", "https://x/%", "https://x:a/", "wss://x"} {
		refuses(t, `[`+web(`[]`, `"site":①"`+s+`"`)+`]`, api.ErrForm)
	}
	for _, s := range []string{"a.b", "A.b_1.C2", strings.Repeat("a.", 111) + "a"} {
		decodes(t, `[`+app(`[]`, `"package_name":"`+s+`","site":1,"sha256_cert_fingerprints":["`+textA+`"]`)+`]`, api.Statement{Kind: api.StApp, Package: s, Prints: []api.Print{printA}})
	}
	for _, s := range []string{"", "a", "a.", ".a", "a..b", "a.1", "a.b-c", "é.a", strings.Repeat("a.", 111) + "aa"} {
		refuses(t, `[`+app(`[]`, `"package_name":①"`+s+`","sha256_cert_fingerprints":["`+textA+`"]`)+`]`, api.ErrForm)
	}
	// Fingerprints stay in their order, those that are alike, too; their digits may be great or small.
	decodes(t, `[`+app(`[]`, named(textB, textA, strings.ToLower(textB), textB))+`]`, api.Statement{Kind: api.StApp, Package: "com.a", Prints: []api.Print{printB, printA, printB, printB}})
	for _, s := range []string{"", "01", textA + ":00", textA[3:], textA + " ", strings.ReplaceAll(textA, ":", ""), strings.Replace(textA, "AB", "AG", 1), strings.ReplaceAll(textA, ":", "-")} {
		refuses(t, `[`+app(`[]`, `"package_name":"com.a","sha256_cert_fingerprints":[①"`+s+`"]`)+`]`, api.ErrForm)
		refuses(t, `[`+app(`[]`, `"package_name":"com.a","sha256_cert_fingerprints":["`+textB+`",①"`+s+`","`+textA+`"]`)+`]`, api.ErrForm)
	}
}

// P22.1: as many as there may be, and one more.
func TestDecodeMost(t *testing.T) {
	same(t, "how many statements", len(decode(t, list(1000, include("https://x/")))), 1000)
	refuses(t, ` ①`+list(1001, include("https://x/")), api.ErrMany)
	same(t, "how many relations", len(decode(t, `[`+other(list(32, `"a/b"`), `"z"`)+`]`)[0].Relations), 32)
	refuses(t, `[{"relation": ①`+list(33, `"a/b"`)+`,"target":{"namespace":"z"}}]`, api.ErrMany)
	same(t, "how many fingerprints", len(decode(t, `[`+app(`[]`, named(slices.Repeat([]string{textA}, 8)...))+`]`)[0].Prints), 8)
	refuses(t, `[`+app(`[]`, `"package_name":"com.a","sha256_cert_fingerprints": ①`+list(9, `"`+textA+`"`))+`]`, api.ErrMany)
	refuses(t, `[`+app(`[]`, `"package_name":"com.a","sha256_cert_fingerprints": ①[]`)+`]`, api.ErrName)
	// How many there are is asked ahead of what they are.
	refuses(t, `①`+list(1001, `{}`), api.ErrMany)
	refuses(t, `[{"relation":①`+list(33, `"a"`)+`}]`, api.ErrMany)
	refuses(t, `[`+app(`[]`, `"package_name":"com.a","sha256_cert_fingerprints":①`+list(9, `1`))+`]`, api.ErrMany)
	refuses(t, `[`+app(`[]`, `"package_name":"com.a","sha256_cert_fingerprints":①`+list(9, `""`))+`]`, api.ErrMany)
}

// slot is one of the values of a statement: how it may stand there, with its key, and what is wrong then.
type slot struct {
	mark string
	ways []way
}

type way struct {
	member string // empty: it is missing
	kind   api.Errno
	at     string // the mark at which it is wrong
}

// slots gives what the values of a target with more members may be.
func slots(space string) []slot {
	missing := func(at string) way { return way{"", api.ErrName, at} }
	all := []slot{
		{"②", []way{{`"relation":["a/b","c/d"]`, 0, ""}, missing("①"), {`"relation":②{}`, api.ErrKind, "②"}, {`"relation":["a/b",②null]`, api.ErrKind, "②"}, {`"relation":["a/b",②"c","d"]`, api.ErrForm, "②"}, {`"relation":②` + list(33, `"a/b"`), api.ErrMany, "②"}}},
		{"④", []way{{`"namespace":"` + space + `"`, 0, ""}, missing("③"), {`"namespace":④[]`, api.ErrKind, "④"}, {`"namespace":④null`, api.ErrKind, "④"}}},
	}
	switch space {
	case "android_app":
		return append(all,
			slot{"⑤", []way{{`"package_name":"com.a"`, 0, ""}, missing("③"), {`"package_name":⑤1`, api.ErrKind, "⑤"}, {`"package_name":⑤"a"`, api.ErrForm, "⑤"}}},
			slot{"⑥", []way{{`"sha256_cert_fingerprints":["` + textA + `"]`, 0, ""}, missing("③"), {`"sha256_cert_fingerprints":⑥"` + textA + `"`, api.ErrKind, "⑥"}, {`"sha256_cert_fingerprints":["` + textA + `",⑥1]`, api.ErrKind, "⑥"}, {`"sha256_cert_fingerprints":["` + textA + `",⑥""]`, api.ErrForm, "⑥"}, {`"sha256_cert_fingerprints":⑥[]`, api.ErrName, "⑥"}, {`"sha256_cert_fingerprints":⑥` + list(9, `1`), api.ErrMany, "⑥"}}})
	case "web":
		return append(all, slot{"⑦", []way{{`"site":"http://x"`, 0, ""}, missing("③"), {`"site":⑦false`, api.ErrKind, "⑦"}, {`"site":⑦"x"`, api.ErrForm, "⑦"}}})
	default:
		return all
	}
}

// object is an object of the members that are there, in one order or the other.
func object(turned bool, members ...string) string {
	members = slices.DeleteFunc(slices.Clone(members), func(s string) bool { return s == "" })
	if turned {
		slices.Reverse(members)
	}
	return "{" + strings.Join(members, ",") + "}"
}

// P22.1: of all that may be wrong with a statement's values at once the first one in the order of reading counts, wherever they stand.
func TestDecodeOrder(t *testing.T) {
	for _, space := range []string{"android_app", "web", "z"} {
		var chosen []way
		var choose func(left []slot)
		choose = func(left []slot) {
			if len(left) == 0 {
				checkOrder(t, chosen)
				return
			}
			for _, w := range left[0].ways {
				chosen = append(chosen, w)
				choose(left[1:])
				chosen = chosen[:len(chosen)-1]
			}
		}
		choose(slots(space))
	}
}

// checkOrder asks for the first error of the ways that a statement's values are in.
func checkOrder(t *testing.T, chosen []way) {
	t.Helper()
	var members []string
	for _, w := range chosen {
		members = append(members, w.member)
	}
	first := slices.IndexFunc(chosen, func(w way) bool { return w.kind != 0 })
	for _, turned := range []bool{false, true} {
		target := `"target":③` + object(turned, members[1:]...)
		marked := `[` + include("https://x/") + `, ①` + object(turned, members[0], target) + `,1]`
		if first >= 0 {
			doc, at := unmarked(marked, chosen[first].at)
			refused(t, doc, chosen[first].kind, at)
		} else {
			doc, _ := unmarked(strings.TrimSuffix(marked, ",1]")+"]", "①")
			same(t, "how many statements "+doc+" has", len(decode(t, doc)), 2)
		}
	}
}

// P22.1: the errors of values that are wrong around these, alone and with others.
func TestDecodeWrong(t *testing.T) {
	for doc, kind := range map[string]api.Errno{
		`①{}`: api.ErrKind, ` ①1`: api.ErrKind, `①null`: api.ErrKind, `①"x"`: api.ErrKind, `①{"include":"https://x/"}`: api.ErrKind,
		`[①1]`: api.ErrKind, `[①[]]`: api.ErrKind, `[①null]`: api.ErrKind, `[①"https://x/"]`: api.ErrKind, `[` + include("https://x/") + `, ①true]`: api.ErrKind,
		`[①{}]`: api.ErrName, `[①{"x":1}]`: api.ErrName, `[①{"target":{"namespace":"z"}}]`: api.ErrName, `[①{"Relation":[],"target":{"namespace":"z"}}]`: api.ErrName, `[①{"relation":[]}]`: api.ErrName, `[①{"relation":["a/b"],"Target":{}}]`: api.ErrName,
		`[{"relation":[],"target":①{}}]`: api.ErrName, `[{"relation":[],"target":①1}]`: api.ErrKind, `[{"relation":[],"target":①[]}]`: api.ErrKind, `[{"relation":[],"target":①null}]`: api.ErrKind, `[{"relation":[],"target":①"web"}]`: api.ErrKind,
		`[{"target":1,"relation":①2}]`: api.ErrKind, `[{"target":1,"relation":[①"x"]}]`: api.ErrForm, `[①{"target":1}]`: api.ErrName,
		`[①{},1]`: api.ErrName, `[①1,{}]`: api.ErrKind, `[{"include":①1},{}]`: api.ErrKind, `[{"relation":[①"x",1]}]`: api.ErrForm, `[{"relation":[①1,"x"]}]`: api.ErrKind,
	} {
		refuses(t, doc, kind)
	}
}

// P22.1: a text beyond the bounds, and one that is none of JSON's.
func TestDecodeBounds(t *testing.T) {
	nested := func(n int) string { return strings.Repeat("[", n) + strings.Repeat("]", n) }
	beside := func(value string) string { return `[{"x":` + value + `,"include":"https://x/"}]` }
	for _, doc := range []string{beside("1") + strings.Repeat(" ", 1048576-len(beside("1"))), beside(nested(62)), beside(list(19996, "1"))} {
		decodes(t, doc, api.Statement{Kind: api.StInclude, Site: "https://x/"})
	}
	for doc, kind := range map[string]api.Errno{
		"[]" + strings.Repeat(" ", 1048575): api.ErrLong, strings.Repeat("\xff", 1048577): api.ErrLong, beside(nested(63)): api.ErrDeep, nested(65): api.ErrDeep, beside(list(19997, "1")): api.ErrMany, list(20000, "1"): api.ErrMany,
		"": api.ErrShort, "[": api.ErrShort, `[{"include":`: api.ErrShort, `[{"include":"https://x/"}`: api.ErrShort, "]": api.ErrForm, "[]x": api.ErrForm, "\ufeff[]": api.ErrForm, "[1,]": api.ErrForm, "[1]]": api.ErrForm, "[\"\xff\"]": api.ErrUTF,
	} {
		got, err := links.Decode([]byte(doc))
		wrong(t, "Decode of "+doc, err, api.ErrDoc, 0)
		_, inner := jsonp.Parse([]byte(doc), bounds)
		same(t, "the error within that of "+doc, errors.Unwrap(err), inner)
		same(t, doc+", that its error is of the kind", errors.Is(err, kind), true)
		same(t, "beside the error of "+doc, len(got), 0)
	}
}

// P22.1: which texts are relations, of all short ones, and at the edges.
func TestRelation(t *testing.T) {
	form := regexp.MustCompile(`^[A-Za-z0-9_.\-]+/[A-Za-z0-9_.\-]+$`)
	var grow func(s string, left int)
	grow = func(s string, left int) {
		if got := links.Relation(s); got != form.MatchString(s) {
			t.Errorf("Relation of %q: got %v", s, got)
		}
		if left == 0 {
			return
		}
		for _, c := range []string{"a", "Z", "0", "_", ".", "-", "/", " ", "é"} {
			grow(s+c, left-1)
		}
	}
	grow("", 5)
	for c := range 256 {
		b := string([]byte{byte(c)})
		for _, s := range []string{b + "/a", "a/" + b, "a" + b + "b/c", "a" + b + "c", "a/b" + b, b + "a/b"} {
			same(t, "Relation of "+s, links.Relation(s), form.MatchString(s))
		}
	}
	long := strings.Repeat("a", 98)
	for s, want := range map[string]bool{api.HandleURLs: true, "delegate_permission/common.get_login_creds": true, long + "/b": true, "b/" + long: true, "a" + long + "/b": false, "b/a" + long: false, long + "a": false, "/" + long + "a": false, strings.Repeat("a", 1<<20) + "/b": false} {
		same(t, "Relation of "+s, links.Relation(s), want)
		if len(s) > 1<<19 {
			continue
		}
		_, err := links.Decode([]byte(`[` + other(texts(s), `"z"`) + `]`))
		same(t, "whether Decode takes "+s, err == nil, want)
	}
}

// P22.2
func TestGrants(t *testing.T) {
	one := api.Statement{Kind: api.StApp, Relations: []string{"a/b", "c/d"}, Package: "com.a", Prints: []api.Print{printA, printB}}
	for _, c := range []struct {
		pkg      string
		p        api.Print
		relation string
		want     bool
	}{
		{"com.a", printA, "a/b", true}, {"com.a", printB, "a/b", true}, {"com.a", printB, "c/d", true}, {"com.a", api.Print{}, "a/b", false}, {"com.b", printA, "a/b", false}, {"com.A", printA, "a/b", false}, {"com", printA, "a/b", false}, {"com.a.b", printA, "a/b", false}, {"", printA, "a/b", false},
		{"com.a", printA, "a/B", false}, {"com.a", printA, "a/", false}, {"com.a", printA, "a/b/", false}, {"com.a", printA, "c", false}, {"com.a", printA, "", false}, {"com.a", printA, "a/d", false},
	} {
		for _, list := range [][]api.Statement{{one}, {one, one}, {{}, one}, {{Kind: api.StApp}, one, {Kind: api.StOther}}} {
			same(t, c.pkg+" "+c.relation, links.Grants(list, c.pkg, c.p, c.relation), c.want)
		}
		same(t, "without statements", links.Grants(nil, c.pkg, c.p, c.relation), false)
		for _, kind := range []int{-1, 0, api.StInclude, api.StWeb, api.StOther, 5, api.StApp + 1<<32} {
			x := one
			x.Kind = kind
			same(t, "another kind", links.Grants([]api.Statement{x}, c.pkg, c.p, c.relation), false)
		}
	}
}

// P22.2: all is told by one statement, or it isn't told. Texts are held against each other as they are.
func TestGrantsOfOne(t *testing.T) {
	relations, packages, prints := []string{"a/b", "c/d"}, []string{"com.a", "com.b"}, []api.Print{printA, printB}
	var all []api.Statement
	for n := range 8 {
		all = append(all, api.Statement{Kind: api.StApp, Relations: relations[n&1:][:1], Package: packages[n>>1&1], Prints: prints[n>>2:][:1]})
	}
	for n := range 256 {
		var list []api.Statement
		for i, s := range all {
			if n>>i&1 == 1 {
				list = append(list, s)
			}
		}
		for i, s := range all {
			same(t, "statements", links.Grants(list, s.Package, s.Prints[0], s.Relations[0]), n>>i&1 == 1)
		}
	}
	odd := []api.Statement{{Kind: api.StApp, Relations: []string{"", "\xff"}, Package: "\xff", Prints: []api.Print{{}}}}
	same(t, "odd texts", links.Grants(odd, "\xff", api.Print{}, "\xff") && links.Grants(odd, "\xff", api.Print{}, "") && !links.Grants(odd, "\xfe", api.Print{}, ""), true)
}

// P22.2
func TestIncludes(t *testing.T) {
	in := func(site string) api.Statement { return api.Statement{Kind: api.StInclude, Site: site} }
	for _, c := range []struct {
		list []api.Statement
		want []string
	}{
		{nil, nil}, {[]api.Statement{{}, {Kind: api.StApp, Site: "a"}, {Kind: api.StWeb, Site: "b"}, {Kind: api.StOther, Site: "c"}, {Kind: 9, Site: "d"}, {Kind: -1, Site: "e"}}, nil},
		{[]api.Statement{in("b"), in("a")}, []string{"b", "a"}}, {[]api.Statement{in("b"), {Kind: api.StWeb, Site: "c"}, in("a"), in("b"), in("c"), in("a")}, []string{"b", "a", "c"}},
		{[]api.Statement{{Kind: api.StWeb, Site: "a"}, in("a")}, []string{"a"}}, {[]api.Statement{in(""), in("\xff"), in("A"), in("a"), in("a/"), in(""), in("\xff")}, []string{"", "\xff", "A", "a", "a/"}},
	} {
		if got := links.Includes(c.list); !slices.Equal(got, c.want) {
			t.Errorf("Includes of %v: got %q, want %q", c.list, got, c.want)
		}
	}
	// Of all short lists: each that comes is new, and all come in the order in which they are first told.
	for n := range 3125 {
		var list []api.Statement
		var want []string
		for ; n > 0; n /= 5 {
			site := string(rune('a' + n%5))
			list = append(list, in(site))
			if !slices.Contains(want, site) {
				want = append(want, site)
			}
		}
		if got := links.Includes(list); !slices.Equal(got, want) {
			t.Errorf("Includes of %v: got %q, want %q", list, got, want)
		}
	}
}

// writes asks for the document of statements.
func writes(t *testing.T, want string, list ...api.Statement) {
	t.Helper()
	got, err := links.Write(list)
	same(t, "the error of Write for "+want, err, nil)
	same(t, "Write", got, want)
}

// P22.3
func TestWrite(t *testing.T) {
	writes(t, `[]`)
	writes(t, `[{"include":"https://x/"}]`, api.Statement{Kind: api.StInclude, Site: "https://x/"})
	writes(t, `[{"relation":["a/b","c/d"],"target":{"namespace":"android_app","package_name":"com.a","sha256_cert_fingerprints":["`+textB+`","`+textA+`","`+textB+`"]}}]`,
		api.Statement{Kind: api.StApp, Relations: []string{"a/b", "c/d"}, Package: "com.a", Prints: []api.Print{printB, printA, printB}})
	writes(t, `[{"relation":["b","a"],"target":{"namespace":"web","site":"https://x"}},{"relation":["b","b"],"target":{"namespace":"x"}},{"include":"y"}]`,
		api.Statement{Kind: api.StWeb, Relations: []string{"b", "a"}, Site: "https://x"}, api.Statement{Kind: api.StOther, Relations: []string{"b", "b"}}, api.Statement{Kind: api.StInclude, Site: "y"})
	// Of a kind's members all are there, empty ones, too, and no others.
	writes(t, `[{"include":""},{"relation":[],"target":{"namespace":"android_app","package_name":"","sha256_cert_fingerprints":[]}},{"relation":[],"target":{"namespace":"web","site":""}},{"relation":[],"target":{"namespace":"x"}}]`,
		api.Statement{Kind: api.StInclude}, api.Statement{Kind: api.StApp}, api.Statement{Kind: api.StWeb}, api.Statement{Kind: api.StOther})
	full := api.Statement{Relations: []string{"r"}, Package: "p", Prints: []api.Print{{}}, Site: "s"}
	for kind, want := range map[int]string{
		api.StInclude: `{"include":"s"}`, api.StApp: `{"relation":["r"],"target":{"namespace":"android_app","package_name":"p","sha256_cert_fingerprints":["00` + strings.Repeat(":00", 31) + `"]}}`, api.StWeb: `{"relation":["r"],"target":{"namespace":"web","site":"s"}}`, api.StOther: `{"relation":["r"],"target":{"namespace":"x"}}`,
	} {
		full.Kind = kind
		writes(t, `[`+want+`]`, full)
		writes(t, `[`+want+`,`+want+`]`, full, full)
	}
	// Texts as layer 6 quotes them.
	odd, quoted := "\"\\/\x00\n\x1fé😀<", `"\"\\/\u0000\n\u001Fé😀<"`
	writes(t, `[{"include":`+quoted+`},{"relation":[`+quoted+`],"target":{"namespace":"android_app","package_name":`+quoted+`,"sha256_cert_fingerprints":[]}},{"relation":[],"target":{"namespace":"web","site":`+quoted+`}}]`,
		api.Statement{Kind: api.StInclude, Site: odd}, api.Statement{Kind: api.StApp, Relations: []string{odd}, Package: odd}, api.Statement{Kind: api.StWeb, Site: odd})
}

// P22.3: the first statement that can't be written counts.
func TestWriteErrors(t *testing.T) {
	fine := []api.Statement{{Kind: api.StOther}, {Kind: api.StWeb}, {Kind: api.StInclude}, {Kind: api.StApp}}
	refuse := func(what string, kind api.Errno, s api.Statement) {
		t.Helper()
		for at := range len(fine) + 1 {
			for _, behind := range [][]api.Statement{nil, {{}}, {{Kind: api.StInclude, Site: "\xff"}}, {{Kind: api.StWeb}, {Kind: 5}}} {
				got, err := links.Write(slices.Concat(fine[:at], []api.Statement{s}, behind))
				wrong(t, what, err, kind, at)
				same(t, "beside the error of "+what, got, "")
			}
		}
	}
	for _, bad := range wrongTexts {
		refuse("an include's site "+bad, api.ErrUTF, api.Statement{Kind: api.StInclude, Site: bad})
		refuse("a site "+bad, api.ErrUTF, api.Statement{Kind: api.StWeb, Site: bad})
		refuse("a package "+bad, api.ErrUTF, api.Statement{Kind: api.StApp, Package: bad})
		for _, kind := range []int{api.StApp, api.StWeb, api.StOther} {
			refuse("a relation "+bad, api.ErrUTF, api.Statement{Kind: kind, Relations: []string{bad}})
			refuse("the last relation "+bad, api.ErrUTF, api.Statement{Kind: kind, Relations: []string{"a/b", "", bad}})
		}
		// What isn't written isn't looked at.
		writes(t, `[{"include":""}]`, api.Statement{Kind: api.StInclude, Relations: []string{bad}, Package: bad})
		writes(t, `[{"relation":[],"target":{"namespace":"x"}}]`, api.Statement{Kind: api.StOther, Package: bad, Site: bad})
		writes(t, `[{"relation":[],"target":{"namespace":"web","site":""}}]`, api.Statement{Kind: api.StWeb, Package: bad})
		writes(t, `[{"relation":[],"target":{"namespace":"android_app","package_name":"","sha256_cert_fingerprints":[]}}]`, api.Statement{Kind: api.StApp, Site: bad})
	}
	for _, kind := range []int{-1 << 62, -1, 0, 5, 6, 1 << 32, 1<<32 + 1, 1 << 62} {
		refuse("the kind "+strconv.Itoa(kind), api.ErrKind, api.Statement{Kind: kind, Relations: []string{"a/b"}, Package: "com.a", Prints: []api.Print{printA}, Site: "https://x/"})
	}
}

// whole is a document with all that there is.
var whole = `[` + include("https://Y.com#f") + `,` + app(texts(api.HandleURLs, "a/b"), named(textA, strings.ToLower(textB))) + `,` + web(texts("c/d"), `"site":"HTTP://X.com:80/a"`) + `,` + other(texts("e/f"), `"z"`) + `,` + include(`https://y.com/\u00e9\"\\%22?q`) + `]`

// P22.3: what Write gives is in its canonical form, and Decode of it are the statements.
func TestDecodeOfWrite(t *testing.T) {
	for _, doc := range []string{`[]`, whole, list(1000, include("https://x:1/?#")), list(200, app(list(32, `"`+strings.Repeat("a", 49)+`/`+strings.Repeat("-", 50)+`"`), named(textA))), list(500, other(`[]`, `""`)), list(500, web(`["x/y"]`, `"site":"https://[::1]:1/"`))} {
		want := decode(t, doc)
		text, err := links.Write(want)
		same(t, "the error of Write for "+doc, err, nil)
		decodes(t, text, want...)
		d, err := jsonp.Parse([]byte(text), bounds)
		if err != nil {
			t.Errorf("%.300q: %v", text, err)
			continue
		}
		form, err := canon.Write(d, 0)
		same(t, "the canonical form of "+text, form, text)
		same(t, "the error of the canonical form", err, nil)
	}
}

// P22.4: what is handed in stays, its spare room, too, and may be written over behind the call.
func TestArgumentsStay(t *testing.T) {
	b := append(make([]byte, 0, 4096), whole...)
	got, err := links.Decode(b)
	same(t, "the error", err, nil)
	same(t, "the document", string(b), whole)
	same(t, "its spare room", b[:cap(b)][len(b):], make([]byte, cap(b)-len(b)))
	clear(b[:cap(b)])
	same(t, "the statements", bare(got), decode(t, whole))

	given := append(decode(t, whole), decode(t, whole)...)[:9]
	relations := append(make([]string, 0, 4), "z/z", "a/a")
	prints := append(make([]api.Print, 0, 4), printB, printA)
	given[1].Relations, given[1].Prints = relations, prints
	stood := bare(given[:10])
	text, err := links.Write(given)
	same(t, "the error of Write", err, nil)
	sites := links.Includes(given)
	links.Grants(given, "com.a", printA, "a/a")
	same(t, "what was given", bare(given[:10]), stood)
	same(t, "the spare room of relations", relations[:4], []string{"z/z", "a/a", "", ""})
	same(t, "the spare room of fingerprints", prints[:4], []api.Print{printB, printA, {}, {}})
	same(t, "whether Grants holds what stands there", links.Grants(given, "com.a", printA, "a/a"), true)
	relations[1], given[0].Site, given[5].Site = "b/b", "w", "w"
	same(t, "whether Grants keeps what stood there", links.Grants(given, "com.a", printA, "a/a"), false)
	same(t, "the sites", sites[0], "https://y.com/")
	again, err := links.Write(given)
	same(t, "whether Write keeps what it was given", again == text && err == nil, false)
}

// share tells whether two texts lie in one memory.
func share(a, b string) bool {
	from := func(s string) uintptr { return uintptr(unsafe.Pointer(unsafe.StringData(s))) }
	return a != "" && b != "" && from(a) < from(b)+uintptr(len(b)) && from(b) < from(a)+uintptr(len(a))
}

// P22.4: lists of an answer share no room with one another, nor with those of another answer.
func TestAnswersAreNew(t *testing.T) {
	got, _ := links.Decode([]byte(whole))
	other, _ := links.Decode([]byte(whole))
	want := decode(t, whole)
	for i, s := range got {
		_ = append(s.Relations, "x/x")
		_ = append(s.Prints, api.Print{7})
		same(t, "behind statement "+strconv.Itoa(i), bare(got), want)
	}
	for i, s := range got {
		clear(s.Relations[:cap(s.Relations)])
		clear(s.Prints[:cap(s.Prints)])
		same(t, "the statements that are left behind "+strconv.Itoa(i), bare(got[i+1:]), bare(want[i+1:]))
	}
	clear(got[:cap(got)])
	same(t, "the other answer", bare(other), want)

	sites := links.Includes(other)
	same(t, "whether a site lies in the statements", share(sites[0], other[0].Site), false)
	again := links.Includes(other)
	clear(sites[:cap(sites)])
	same(t, "the other sites", again, []string{"https://y.com/", `https://y.com/é"\%22?q`})
	_, first := links.Decode([]byte(" {}"))
	_, second := links.Decode([]byte(" {}"))
	first.(*api.Fault).At = 9
	wrong(t, "Decode", second, api.ErrDoc, 1)
	_, first = links.Write(make([]api.Statement, 1))
	_, second = links.Write(make([]api.Statement, 1))
	first.(*api.Fault).At = 9
	wrong(t, "Write", second, api.ErrKind, 0)
}

// behind gives the place behind the value that begins at a place of a JSON text.
func behind(t *testing.T, doc string, at int) int {
	t.Helper()
	for deep := 0; ; {
		token, err := scan.Next([]byte(doc), at)
		if err != nil {
			t.Fatal(err)
		}
		switch token.Kind {
		case api.TokObject, api.TokList:
			deep++
		case api.TokEndObject, api.TokEndList:
			deep--
		}
		if at = token.To; deep == 0 {
			return at
		}
	}
}

// changed gives a document with others in the place of each of its values.
func changed(t *testing.T, doc string) []string {
	t.Helper()
	d, err := jsonp.Parse([]byte(doc), bounds)
	if err != nil {
		t.Fatal(err)
	}
	var docs []string
	for id := range d.Len() {
		n, _ := d.Node(id)
		for _, value := range []string{`null`, `true`, `-1e9`, `""`, `"x/y"`, `"https://x"`, `"com.b"`, `[]`, `["x/y"]`, `[{}]`, `{}`, `{"":{}}`, `{"include":"https://x"}`, `{"namespace":"z"}`} {
			docs = append(docs, doc[:n.At]+value+doc[behind(t, doc, n.At):])
		}
	}
	return docs
}

// P22.1: whatever stands in the place of a value, the error, if there is one, is a document's, at a value.
func TestDecodeOfChanged(t *testing.T) {
	right := 0
	for _, doc := range changed(t, whole) {
		list, err := links.Decode([]byte(doc))
		if err == nil {
			right++
			continue
		}
		var f *api.Fault
		errors.As(err, &f)
		same(t, "the error's kind, of "+doc, f.Kind, api.ErrDoc)
		same(t, "beside the error of "+doc, len(list), 0)
		d, err := jsonp.Parse([]byte(doc), bounds)
		same(t, "the error of "+doc, err, nil)
		stands := false
		for id := range d.Len() {
			n, _ := d.Node(id)
			stands = stands || n.At == f.At
		}
		same(t, "whether a value stands at the error of "+doc, stands, true)
	}
	same(t, "whether some are right, and some wrong", right > 9 && right < 99, true)
}

// P1 and P2: all calls end, none panics, and a second run answers what the first one did.
func TestAnyArguments(t *testing.T) {
	docs := append([]string{"", "\xff", whole, whole[:200], strings.Repeat("[", 1<<20), strings.Repeat(`{"include":`, 64), list(1000, "{}"), list(19999, `1`), include(strings.Repeat("/", 1<<20)), `[{"relation":` + list(19990, `"a/b"`) + `}]`, "[{" + strings.Repeat(`"include":"",`, 9999)[:9999*13-1] + "}]"}, changed(t, whole)...)
	lists := [][]api.Statement{nil, make([]api.Statement, 3), {{Kind: api.StApp, Relations: make([]string, 99), Prints: make([]api.Print, 99)}}, slices.Repeat([]api.Statement{{Kind: api.StInclude, Site: "\xff"}}, 9999)}
	run := func() []any {
		var all []any
		keep := func(answers ...any) { all = append(all, answers...) }
		look := func(list []api.Statement, s string) {
			text, err := links.Write(list)
			keep(text, err, links.Includes(list), links.Grants(list, s, api.Print{}, s), links.Relation(s))
		}
		for _, doc := range docs {
			list, err := links.Decode([]byte(doc))
			keep(list, err)
			look(list, doc)
		}
		for _, list := range lists {
			look(list, "")
		}
		return all
	}
	same(t, "the second run", run(), run())
}
