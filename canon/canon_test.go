package canon_test

import (
	"bytes"
	"encoding/json"
	"errors"
	"maps"
	"math"
	"reflect"
	"slices"
	"strconv"
	"strings"
	"testing"

	"waybill/api"
	"waybill/canon"
	"waybill/jsonp"
	"waybill/scan"
)

// wide are bounds that no text here reaches.
var wide = api.Bounds{Bytes: 1 << 30, Deep: 1 << 30, Nodes: 1 << 30}

// ids are numbers around those of a small text, and the type's bounds.
var ids = []int{math.MinInt, -1 << 32, -2, -1, 0, 1, 2, 3, 4, 5, 6, 7, 8, 9, 1 << 32, math.MaxInt}

// noChars are texts that aren't characters' bytes.
var noChars = []string{"\x80", "a\xff", "\xc3", "\xc0\x80", "é\xe2\x82", "\xed\xa0\x80", "\xf4\x90\x80\x80"}

func same(t *testing.T, what string, got, want any) {
	t.Helper()
	if !reflect.DeepEqual(got, want) {
		t.Errorf("%q: got %#v, want %#v", what, got, want)
	}
}

// wrong asks for the error itself, and for what errors.Is and errors.As tell of it.
func wrong(t *testing.T, what string, err error, kind api.Errno, at int) {
	t.Helper()
	var f *api.Fault
	if !errors.As(err, &f) {
		t.Errorf("%q: got %v, want errno %d at %d", what, err, kind, at)
		return
	}
	if f.Kind != kind || f.At != at || !errors.Is(err, kind) || f.Inner != nil {
		t.Errorf("%q: got errno %d at %d, want %d at %d", what, f.Kind, f.At, kind, at)
	}
}

func read(t *testing.T, s string) *jsonp.Doc {
	t.Helper()
	d, err := jsonp.Parse([]byte(s), wide)
	if err != nil {
		t.Fatalf("%q: %v", s, err)
	}
	return d
}

func write(t *testing.T, d *jsonp.Doc, id int) string {
	t.Helper()
	s, err := canon.Write(d, id)
	same(t, s, err, error(nil))
	return s
}

// asRule gives the canonical form of what another reader reads of a text.
func asRule(t *testing.T, s string) string {
	t.Helper()
	var v any
	reader := json.NewDecoder(strings.NewReader(s))
	reader.UseNumber()
	if err := reader.Decode(&v); err != nil {
		t.Fatalf("%q: %v", s, err)
	}
	return form(v)
}

func form(v any) string {
	switch x := v.(type) {
	case nil:
		return "null"
	case bool:
		return strconv.FormatBool(x)
	case json.Number:
		return string(x)
	case string:
		q, _ := scan.Quote(x)
		return q
	case []any:
		var parts []string
		for _, part := range x {
			parts = append(parts, form(part))
		}
		return "[" + strings.Join(parts, ",") + "]"
	}
	object := v.(map[string]any)
	var parts []string
	for _, key := range slices.SortedFunc(maps.Keys(object), func(a, b string) int { return bytes.Compare([]byte(a), []byte(b)) }) {
		parts = append(parts, form(key)+":"+form(object[key]))
	}
	return "{" + strings.Join(parts, ",") + "}"
}

// texts are values of all kinds in many shapes: those of a few values, in lists and as members, and these in one another.
func texts() []string {
	small := []string{"null", "false", "true", "0", "-1.50E+2", "15e1", `""`, `"a"`, `"\u0061"`, `"\/\n\u000b"`, "[]", "{}"}
	list := slices.Clone(small)
	for _, a := range small {
		list = append(list, "[ "+a+" ]", `{"k" : `+a+`}`)
		for _, b := range small[3:] {
			list = append(list, "["+a+" ,"+b+"]", `{"b":`+a+`,"a":`+b+`}`, `{"a":`+a+`,"\u0061":`+b+`}`, `{"b/":[`+a+`],"":{"0":`+b+`}}`)
		}
	}
	for _, a := range slices.Clone(list) {
		list = append(list, `[[`+a+`],{"x":{"y":`+a+`}}]`)
	}
	return list
}

// Both of the chapter's examples.
func TestExample(t *testing.T) {
	d := read(t, `{"b":[1, 2],"a":"x"}`)
	same(t, "Write", write(t, d, 0), `{"a":"x","b":[1,2]}`)
	id, err := canon.Path(read(t, write(t, d, 0)), 0, "/b/1")
	same(t, "Path", []any{id, err}, []any{4, nil})
	id, err = canon.Path(d, 0, "/b/1")
	same(t, "Path", []any{id, err}, []any{3, nil})
}

// P8.1
func TestWrite(t *testing.T) {
	for s, want := range map[string]string{
		" null ": "null", "\ttrue": "true", "false\n": "false", "0": "0", "-0": "-0", "1.50": "1.50", "1E+02": "1E+02", "-1.0e-0": "-1.0e-0", "123456789012345678901234567890": "123456789012345678901234567890",
		`""`: `""`, `"a"`: `"a"`, `"\u0061\/"`: `"a/"`, `"\"\\\b\f\n\r\t"`: `"\"\\\b\f\n\r\t"`, `"\u0000\u001f\u0008\u007f"`: "\"\\u0000\\u001F\\b\x7f\"", `"\u00e9\ud83d\ude00"`: `"é😀"`, `"<&>\u2028"`: "\"<&>\u2028\"",
		"[ ]": "[]", "[ 1 , [ ] , \"a\" ]": `[1,[],"a"]`, "[null,null]": "[null,null]", "{ }": "{}", `{ "a" : { "b" : [ ] } }`: `{"a":{"b":[]}}`,
		`{"b":1,"a":2}`: `{"a":2,"b":1}`, `{"b":1,"a":2,"b":3}`: `{"a":2,"b":3}`, `{"a":1,"\u0061":[]}`: `{"a":[]}`, `{"\n":1}`: `{"\n":1}`, `[{"b":{"d":1,"c":2},"a":[{"z":1,"y":2}]}]`: `[{"a":[{"y":2,"z":1}],"b":{"c":2,"d":1}}]`,
	} {
		same(t, s, write(t, read(t, s), 0), want)
	}
}

// P8.1: each key comes ahead of the next one, held against each other as their bytes, not as they are written, nor as other units.
func TestOrderOfKeys(t *testing.T) {
	rising := []string{"", "\x00", "\x00a", "\n", "\x1f", " ", "!", `"`, "#", "0", "1", "10", "2", "A", "Aa", "B", "[", `\`, `\a`, "]", "a", "a\x00", "aA", "aa", "ab", "b", "~", "\x7f", "\u0080", "é", "€", "\ufb00", "\uffff", "\U00010000", "😀", "\U0010ffff"}
	var members, want []string
	for i, key := range rising {
		q, _ := scan.Quote(key)
		want = append(want, q+":"+strconv.Itoa(i))
		members = slices.Insert(members, i/2, q+" : "+strconv.Itoa(i))
	}
	form := "{" + strings.Join(want, ",") + "}"
	same(t, "Write", write(t, read(t, "{"+strings.Join(members, ",")+"}"), 0), form)
	slices.Reverse(members)
	same(t, "Write", write(t, read(t, "{"+strings.Join(members, ",")+"}"), 0), form)

	// The same members, with texts as their values: P8.3's order is this one, too.
	var keys, values, texts []string
	for i, key := range rising {
		q, _ := scan.Quote(key)
		texts = append(texts, q+`:"`+strconv.Itoa(i)+`"`)
		keys, values = slices.Insert(keys, i/2, key), slices.Insert(values, i/2, strconv.Itoa(i))
	}
	got, err := canon.Object(keys, values)
	same(t, "Object", []any{got, err}, []any{"{" + strings.Join(texts, ",") + "}", nil})
}

// P8.1: of every value, against another reader; and there and back.
func TestWriteOfTexts(t *testing.T) {
	for _, s := range texts() {
		d := read(t, s)
		whole := write(t, d, 0)
		same(t, s, whole, asRule(t, s))
		for id := range d.Len() {
			form := write(t, d, id)
			same(t, form, write(t, read(t, form), 0), form)
			same(t, form, asRule(t, form), form)
		}
	}
}

// P8.1: of a value within others the form is its own, without its key.
func TestWriteWithin(t *testing.T) {
	d := read(t, `{"b":[1,{"d":2,"c":"x"}],"a":true,"b":null}`)
	for id, want := range []string{`{"a":true,"b":null}`, `[1,{"c":"x","d":2}]`, "1", `{"c":"x","d":2}`, "2", `"x"`, "true", "null"} {
		same(t, want, write(t, d, id), want)
	}
	for _, id := range append([]int{d.Len()}, ids...) {
		if id < 0 || id >= d.Len() {
			s, err := canon.Write(d, id)
			wrong(t, "Write", err, api.ErrName, id)
			same(t, "the form beside an error", s, "")
		}
	}
}

// P8.2: all values of one text against all of another.
func TestSame(t *testing.T) {
	a := read(t, `[1,1.0,"1","\u0031",[],{},[1],null,{"a":1,"b":2},{"a":[],"a":1},[1,2],true,false,""]`)
	b := read(t, ` [ {"b" : 2, "a" : 1}, {"a":1}, [ 1 ], 1, 1.0, 10e-1, "1", [ ], { }, [2,1], null, "null", "", {"b":1,"a":2} ] `)
	for i := range a.Len() {
		for k := range b.Len() {
			want := write(t, a, i) == write(t, b, k)
			same(t, write(t, a, i)+" and "+write(t, b, k), canon.Same(a, i, b, k), want)
			same(t, write(t, b, k)+" and "+write(t, a, i), canon.Same(b, k, a, i), want)
		}
		same(t, "of one text", canon.Same(a, i, a, i), true)
	}
	for s, want := range map[string]bool{`{"b":2,"a":1}`: true, `{"a":0,"a":1,"b":2}`: true, `{"a":1,"b":2}`: true, `{"a":1,"b":2.0}`: false, `{"a":1}`: false, `{"a":1,"b":2,"c":3}`: false, `{"A":1,"b":2}`: false, `[1,2]`: false} {
		same(t, s, canon.Same(read(t, s), 0, read(t, `{"a":1,"b":2}`), 0), want)
	}
}

// P8.2: what isn't there is like nothing, another such neither.
func TestSameOfNone(t *testing.T) {
	d, other := read(t, `[""]`), read(t, `[""]`)
	for _, i := range ids {
		for _, k := range ids {
			same(t, "Same", canon.Same(d, i, other, k), i == k && (i == 0 || i == 1))
			same(t, "Same", canon.Same(d, i, d, k), i == k && (i == 0 || i == 1))
		}
	}
}

// P8.3
func TestObjectAndList(t *testing.T) {
	for _, c := range []struct {
		keys, values []string
		want         string
	}{
		{nil, nil, "{}"}, {[]string{}, nil, "{}"}, {[]string{""}, []string{""}, `{"":""}`}, {[]string{"b", "a"}, []string{"1", `"`}, `{"a":"\"","b":"1"}`}, {[]string{"c", "a", "b"}, []string{"x", "x", "x"}, `{"a":"x","b":"x","c":"x"}`},
		{[]string{"#", `"`, "!"}, []string{"1", "2", "3"}, `{"!":"3","\"":"2","#":"1"}`}, {[]string{"a", "A", "aa", "é"}, []string{"null", "[]", "\x00", "😀/"}, `{"A":"[]","a":"null","aa":"\u0000","é":"😀/"}`},
	} {
		s, err := canon.Object(c.keys, c.values)
		same(t, c.want, []any{s, err}, []any{c.want, nil})
		same(t, c.want, write(t, read(t, s), 0), s)
	}
	for want, values := range map[string][]string{"[]": {}, `[""]`: {""}, `["b","a","b"]`: {"b", "a", "b"}, `["\"\n","\\u0061","é😀","\u001F"]`: {"\"\n", `\u0061`, "é😀", "\x1f"}} {
		s, err := canon.List(values)
		same(t, want, []any{s, err}, []any{want, nil})
		same(t, want, write(t, read(t, s), 0), s)
		list, _ := read(t, s).Texts(0)
		same(t, want, append([]string{}, list...), values)
	}
	s, err := canon.List(nil)
	same(t, "List of nothing", []any{s, err}, []any{"[]", nil})
}

// P8.3: the number of keys comes ahead of a key that is there twice, that ahead of what no characters are, wherever they stand.
func TestObjectErrors(t *testing.T) {
	for _, c := range []struct {
		keys, values []string
		kind         api.Errno
		at           int
	}{
		{[]string{"a"}, nil, api.ErrArg, 0}, {nil, []string{"a"}, api.ErrArg, 0}, {[]string{"a", "b"}, []string{"1"}, api.ErrArg, 0}, {[]string{"a"}, []string{"1", "2"}, api.ErrArg, 0}, {[]string{"a", "a"}, []string{"\xff"}, api.ErrArg, 0}, {[]string{"\xff"}, nil, api.ErrArg, 0},
		{[]string{"a", "a"}, []string{"1", "1"}, api.ErrThere, 1}, {[]string{"a", "b", "b", "a"}, []string{"1", "2", "3", "4"}, api.ErrThere, 2}, {[]string{"a", "b", "c", "a", "b"}, make([]string, 5), api.ErrThere, 3}, {[]string{"", "b", ""}, make([]string, 3), api.ErrThere, 2},
		{[]string{"\xff", "\xff"}, []string{"\xff", ""}, api.ErrThere, 1}, {[]string{"\xff", "a", "a"}, make([]string, 3), api.ErrThere, 2},
		{[]string{"\xff"}, []string{"\xff"}, api.ErrUTF, 0}, {[]string{"a", "b\xff", "c"}, []string{"1", "2", "\xff"}, api.ErrUTF, 1}, {[]string{"a", "b", "c\xff"}, []string{"1", "\xff", "3"}, api.ErrUTF, 1}, {[]string{"c", "b", "\xff"}, []string{"1", "2", "3"}, api.ErrUTF, 2},
		{[]string{"a", "a\xff"}, []string{"1", "1"}, api.ErrUTF, 1}, {[]string{"\xff", "\xfe"}, []string{"1", "1"}, api.ErrUTF, 0},
	} {
		s, err := canon.Object(c.keys, c.values)
		wrong(t, strings.Join(c.keys, ","), err, c.kind, c.at)
		same(t, "the form beside an error", s, "")
	}
	for _, bad := range noChars {
		s, err := canon.Object([]string{"x", bad}, []string{"1", "2"})
		wrong(t, bad, err, api.ErrUTF, 1)
		same(t, "the form beside an error", s, "")
		_, err = canon.Object([]string{"x", "y", "z"}, []string{"1", "2", bad})
		wrong(t, bad, err, api.ErrUTF, 2)
		s, err = canon.List([]string{"a", "é", bad, "b", bad})
		wrong(t, bad, err, api.ErrUTF, 2)
		same(t, "the form beside an error", s, "")
		_, err = canon.List([]string{bad})
		wrong(t, bad, err, api.ErrUTF, 0)
	}
}

// P8.4
func TestPath(t *testing.T) {
	d := read(t, `{"a":[1,{"":[2]},[]],"":3,"x/y":{"z":4},"b":"s","1":5,"b":{"0":6},"~":7,"é\n":8}`)
	for path, want := range map[string]string{
		"": write(t, d, 0), "/a": `[1,{"":[2]},[]]`, "/a/0": "1", "/a/1": `{"":[2]}`, "/a/1/": "[2]", "/a/1//0": "2", "/a/2": "[]", "/a/00": "1", "/a/000000000000000000000001//0000": "2",
		"/": "3", "/b": `{"0":6}`, "/b/0": "6", "/1": "5", "/~": "7", "/é\n": "8",
	} {
		id, err := canon.Path(d, 0, path)
		same(t, path, err, error(nil))
		same(t, path, write(t, d, id), want)
	}
	list, _ := canon.Path(d, 0, "/a")
	for path, want := range map[string]string{"": `[1,{"":[2]},[]]`, "/0": "1", "/1//0": "2"} {
		id, err := canon.Path(d, list, path)
		same(t, path, err, error(nil))
		same(t, path, write(t, d, id), want)
	}
}

// P8.4: of the first step that can't be gone its own place.
func TestPathErrors(t *testing.T) {
	d := read(t, `{"a":[1,{"":[2]},[]],"s":"t","n":null,"f":false,"t":true,"x/y":1,"o":{},"A":0}`)
	for _, c := range []struct {
		path string
		kind api.Errno
		at   int
	}{
		{"a", api.ErrForm, 0}, {"a/0", api.ErrForm, 0}, {" /a", api.ErrForm, 0}, {"\\a", api.ErrForm, 0}, {"%2Fa", api.ErrForm, 0}, {"0", api.ErrForm, 0}, {"\xff", api.ErrForm, 0}, {"#/a", api.ErrForm, 0},
		{"/", api.ErrName, 0}, {"/b", api.ErrName, 0}, {"//a", api.ErrName, 0}, {"/b/c/d", api.ErrName, 0}, {"/x/y", api.ErrName, 0}, {"/x~1y", api.ErrName, 0}, {"/x%2Fy", api.ErrName, 0}, {"/\xff", api.ErrName, 0}, {"/a /0", api.ErrName, 0}, {"/0", api.ErrName, 0}, {"/o/a", api.ErrName, 2}, {"/o/", api.ErrName, 2}, {"/a/1/x", api.ErrName, 4},
		{"/a/3", api.ErrName, 2}, {"/a/2/0", api.ErrName, 4}, {"/a/1000000", api.ErrName, 2}, {"/a/0001000000", api.ErrName, 2}, {"/a/1//1", api.ErrName, 5}, {"/a/1//1/x", api.ErrName, 5},
		{"/a/", api.ErrForm, 2}, {"/a//0", api.ErrForm, 2}, {"/a/x", api.ErrForm, 2}, {"/a/-1", api.ErrForm, 2}, {"/a/+1", api.ErrForm, 2}, {"/a/0x1", api.ErrForm, 2}, {"/a/1.0", api.ErrForm, 2}, {"/a/ 1", api.ErrForm, 2}, {"/a/-", api.ErrForm, 2}, {"/a/1000001", api.ErrForm, 2}, {"/a/18446744073709551616", api.ErrForm, 2}, {"/a/99999999999999999999999x", api.ErrForm, 2}, {"/a/1//", api.ErrForm, 5}, {"/a/1//a/b", api.ErrForm, 5},
		{"/s/0", api.ErrKind, 2}, {"/s/", api.ErrKind, 2}, {"/n/a", api.ErrKind, 2}, {"/f//", api.ErrKind, 2}, {"/t/x/y", api.ErrKind, 2}, {"/A/0", api.ErrKind, 2}, {"/a/0/0", api.ErrKind, 4}, {"/a/00/0", api.ErrKind, 5}, {"/a/1//0/", api.ErrKind, 7},
	} {
		id, err := canon.Path(d, 0, c.path)
		wrong(t, c.path, err, c.kind, c.at)
		same(t, c.path, id, 0)
	}
}

// P8.4: a value that isn't there comes behind a path that is none, and ahead of all else.
func TestPathFromNowhere(t *testing.T) {
	d := read(t, `[0,"x"]`)
	for _, id := range ids {
		if id >= 0 && id < d.Len() {
			continue
		}
		for path, kind := range map[string]api.Errno{"": api.ErrName, "/": api.ErrName, "/0": api.ErrName, "/x/y": api.ErrName, "0": api.ErrForm, "x/y": api.ErrForm, "\xff": api.ErrForm} {
			got, err := canon.Path(d, id, path)
			wrong(t, path, err, kind, 0)
			same(t, path, got, 0)
		}
	}
	got, err := canon.Path(d, 2, "")
	same(t, "a text", []any{got, err}, []any{2, nil})
	_, err = canon.Path(d, 2, "/0")
	wrong(t, "/0", err, api.ErrKind, 0)
	_, err = canon.Path(d, 2, "0")
	wrong(t, "0", err, api.ErrForm, 0)
}

// P8.4: the greatest place that a path tells.
func TestGreatestPlace(t *testing.T) {
	d := read(t, "["+strings.Repeat("0,", 1_000_001)+"1]")
	id, err := canon.Path(d, 0, "/1000000")
	same(t, "/1000000", []any{id, err}, []any{1_000_001, nil})
	id, err = canon.Path(d, 0, "/1000001")
	wrong(t, "/1000001", err, api.ErrForm, 0)
	same(t, "/1000001", id, 0)
}

// P8.5
func TestPaths(t *testing.T) {
	for s, want := range map[string][]string{
		"1": {""}, `"a/b"`: {""}, "null": {""}, "[]": {""}, "{}": {""}, "[1,2]": {"", "/0", "/1"}, "[[],[1]]": {"", "/0", "/1", "/1/0"}, "[0,0,0,0,0,0,0,0,0,0,[0]]": {"", "/0", "/1", "/2", "/3", "/4", "/5", "/6", "/7", "/8", "/9", "/10", "/10/0"},
		`{"b":1,"a":2}`: {"", "/b", "/a"}, `{"b":[1],"a":2,"b":{"c":3}}`: {"", "/a", "/b", "/b/c"}, `{"":{"":1}}`: {"", "/", "//"}, `{"a/b":[1],"/":2,"c":{"d/":3,"e":4}}`: {"", "/c", "/c/e"}, `{"a":[1,{"b":2}],"x/y":3,"":4}`: {"", "/a", "/a/0", "/a/1", "/a/1/b", "/"},
		`{"\u002f":1,"\u0061":2,"é~0\n":3,"0":4}`: {"", "/a", "/é~0\n", "/0"}, `[{"x/":[1]},{"x/":1,"x":2}]`: {"", "/0", "/1", "/1/x"},
	} {
		same(t, s, canon.Paths(read(t, s), 0), want)
	}
	d := read(t, `{"a":[1,{"b":2}],"a/":[3]}`)
	for id, want := range [][]string{{"", "/a", "/a/0", "/a/1", "/a/1/b"}, {"", "/0", "/1", "/1/b"}, {""}, {"", "/b"}, {""}, {"", "/0"}, {""}} {
		same(t, "Paths", canon.Paths(d, id), want)
	}
	for _, id := range ids {
		if id < 0 || id >= d.Len() {
			same(t, "Paths", len(canon.Paths(d, id)), 0)
		}
	}
}

// reached gives the numbers that paths lead to, in order.
func reached(d *jsonp.Doc, id int) []int {
	list := []int{id}
	items, _ := d.Items(id)
	members, _ := d.Members(id)
	for _, kid := range append(items, members...) {
		if n, _ := d.Node(kid); !strings.Contains(n.Key, "/") {
			list = append(list, reached(d, kid)...)
		}
	}
	return list
}

// P8.4 and P8.5: Path of each of Paths is the value.
func TestPathOfPaths(t *testing.T) {
	for _, s := range texts() {
		d := read(t, s)
		for id := range d.Len() {
			var got []int
			for _, path := range canon.Paths(d, id) {
				there, err := canon.Path(d, id, path)
				same(t, path, err, error(nil))
				got = append(got, there)
			}
			same(t, s, got, reached(d, id))
		}
	}
}

// P8.6
func TestHandedInStays(t *testing.T) {
	keys, values := []string{"c", "a", "b", "spare"}, []string{"3", "1", "2", "spare"}
	s, err := canon.Object(keys[:3], values[:3])
	same(t, "Object", []any{s, err}, []any{`{"a":"1","b":"2","c":"3"}`, nil})
	l, err := canon.List(values[:3])
	same(t, "List", []any{l, err}, []any{`["3","1","2"]`, nil})
	same(t, "the keys", keys, []string{"c", "a", "b", "spare"})
	same(t, "the values", values, []string{"3", "1", "2", "spare"})
	clear(keys)
	clear(values)
	same(t, "what was answered", s+l, `{"a":"1","b":"2","c":"3"}["3","1","2"]`)

	d := read(t, `{"b":{"d":1,"c":2},"a":[3]}`)
	before := tell(d)
	for id := range d.Len() {
		write(t, d, id)
		canon.Paths(d, id)
		canon.Same(d, id, d, 0)
	}
	same(t, "the text", tell(d), before)
	members, _ := d.Members(0)
	same(t, "the members", members, []int{1, 4})
}

// P8.6: lists are by themselves, their spare room too.
func TestAnswersAreNew(t *testing.T) {
	d := read(t, `{"a":[1,2,3],"b":{"c":4}}`)
	one, other := canon.Paths(d, 0), canon.Paths(d, 0)
	want := slices.Clone(other)
	clear(one[:cap(one)])
	same(t, "the other list", other, want)

	_, errA := canon.Path(d, 0, "x")
	_, errB := canon.Path(d, 0, "x")
	errA.(*api.Fault).At = 9
	wrong(t, "x", errB, api.ErrForm, 0)
}

// P1: as deep as the document's bound for parts in one another.
func TestDeepTexts(t *testing.T) {
	const size = 1 << 16
	lists := strings.Repeat("[", size) + strings.Repeat("]", size)
	same(t, "lists", write(t, read(t, lists), 0) == lists, true)
	objects := strings.Repeat(`{"a":`, size) + "1" + strings.Repeat("}", size)
	d := read(t, objects)
	same(t, "objects", write(t, d, 0) == objects, true)
	same(t, "Same", canon.Same(d, 0, read(t, objects), 0), true)
	id, err := canon.Path(d, 0, strings.Repeat("/a", size))
	same(t, "the innermost", []any{id, err}, []any{size, nil})
	_, err = canon.Path(d, 0, strings.Repeat("/a", size)+"/a")
	wrong(t, "behind the innermost", err, api.ErrKind, 2*size)
	const deep = 1 << 11
	same(t, "Paths", len(canon.Paths(read(t, strings.Repeat("[", deep)+strings.Repeat("]", deep)), 0)), deep)
}

// P1 and P2: all calls end, none panics, and a second run answers what the first one did.
func TestAnyArguments(t *testing.T) {
	run := func() []any {
		var all []any
		for _, s := range []string{"1", "[]", `{"d":1,"b":2,"a":[3,4],"c":5,"e":6}`, `[{"x/y":{},"z":"\u0000"}]`} {
			all = append(all, tell(read(t, s))...)
		}
		lists := [][]string{nil, {"a"}, {"\xff"}, {"b", "a"}, {"a", "a"}, {"", "/", "\xff"}}
		for _, keys := range lists {
			l, errL := canon.List(keys)
			all = append(all, l, errL)
			for _, values := range lists {
				s, err := canon.Object(keys, values)
				all = append(all, s, err)
			}
		}
		return all
	}
	same(t, "the second run", run(), run())
}

// tell tells all that the package tells of any number of a text.
func tell(d *jsonp.Doc) []any {
	var all []any
	for _, id := range ids {
		s, err := canon.Write(d, id)
		all = append(all, s, err, canon.Paths(d, id))
		for _, path := range []string{"", "/", "//", "/a", "/0", "/a/0", "/a/1/x", "/999999999999", "a", "\xff", "/\xff"} {
			got, err := canon.Path(d, id, path)
			all = append(all, got, err)
		}
		for _, other := range ids {
			all = append(all, canon.Same(d, id, d, other))
		}
	}
	return all
}
