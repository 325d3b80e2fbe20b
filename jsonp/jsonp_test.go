package jsonp_test

import (
	"encoding/json"
	"errors"
	"math"
	"reflect"
	"slices"
	"strings"
	"testing"

	"waybill/api"
	"waybill/jsonp"
	"waybill/scan"
)

// wide are bounds that no short text reaches.
var wide = api.Bounds{Bytes: 1 << 30, Deep: 1 << 30, Nodes: 1 << 30}

// ids are numbers around those of a small text, and the type's bounds.
var ids = []int{math.MinInt, -1 << 32, -2, -1, 0, 1, 2, 3, 4, 5, 6, 7, 8, 9, 1 << 32, math.MaxInt}

func same(t *testing.T, what string, got, want any) {
	t.Helper()
	if !reflect.DeepEqual(got, want) {
		t.Errorf("%q: got %#v, want %#v", what, got, want)
	}
}

// sameList holds no list and one without elements for one.
func sameList[T comparable](t *testing.T, what string, got []T, want ...T) {
	t.Helper()
	if !slices.Equal(got, want) {
		t.Errorf("%q: got %v, want %v", what, got, want)
	}
}

// wrong asks for the error itself, and for what errors.Is and errors.As tell of it.
func wrong(t *testing.T, what string, err error, kind api.Errno, at int) {
	t.Helper()
	var f *api.Fault
	if !errors.As(err, &f) {
		t.Errorf("%q: got %v, want errno %d at %d", what, err, kind, at)
		return
	}
	if f.Kind != kind || f.At != at || !errors.Is(err, kind) || f.Inner != nil {
		t.Errorf("%q: got errno %d at %d, want %d at %d", what, f.Kind, f.At, kind, at)
	}
}

func read(t *testing.T, s string) *jsonp.Doc {
	t.Helper()
	d, err := jsonp.Parse([]byte(s), wide)
	if d == nil || err != nil {
		t.Fatalf("%q: %v", s, err)
	}
	return d
}

func refused(t *testing.T, s string, most api.Bounds, kind api.Errno, at int) {
	t.Helper()
	d, err := jsonp.Parse([]byte(s), most)
	wrong(t, s, err, kind, at)
	if d != nil {
		t.Errorf("%q: a text beside an error", s)
	}
}

// value is a value as the model reads it, with the numbers beneath it.
type value struct {
	node api.Node
	kids []int
}

// model reads a text by the chapter's words, each of them a function that calls the others.
type model struct {
	b    []byte
	most api.Bounds
	at   int
	list []value
}

// asRule gives what is to be read of a text, or the error that is to be told.
func asRule(s string, most api.Bounds) (list []value, err error) {
	defer func() {
		if f, ok := recover().(*api.Fault); ok {
			list, err = nil, f
		}
	}()
	if most.Bytes < 0 {
		return nil, api.Fail(api.ErrLong, 0)
	}
	if len(s) > most.Bytes {
		return nil, api.Fail(api.ErrLong, most.Bytes)
	}
	m := &model{b: []byte(s), most: most}
	m.value(m.next(), "", 0)
	if t := m.next(); t.Kind != api.TokEnd {
		m.refuse(t)
	}
	return m.list, nil
}

func (m *model) next() api.Token {
	t, err := scan.Next(m.b, m.at)
	if err != nil {
		panic(err)
	}
	m.at = t.To
	return t
}

func (m *model) refuse(t api.Token) {
	if t.Kind == api.TokEnd {
		panic(api.Fail(api.ErrShort, len(m.b)))
	}
	panic(api.Fail(api.ErrForm, t.From))
}

func (m *model) value(t api.Token, key string, deep int) int {
	kinds := map[int]int{
		api.TokNull: api.NodeNull, api.TokTrue: api.NodeTrue, api.TokFalse: api.NodeFalse, api.TokNumber: api.NodeNumber,
		api.TokText: api.NodeText, api.TokList: api.NodeList, api.TokObject: api.NodeObject,
	}
	kind, ok := kinds[t.Kind]
	if !ok {
		m.refuse(t)
	}
	if len(m.list) >= m.most.Nodes {
		panic(api.Fail(api.ErrMany, t.From))
	}
	id := len(m.list)
	m.list = append(m.list, value{node: api.Node{Kind: kind, Key: key, Text: m.text(t), At: t.From}})
	if kind != api.NodeList && kind != api.NodeObject {
		return id
	}
	if deep >= m.most.Deep {
		panic(api.Fail(api.ErrDeep, t.From))
	}
	if kind == api.NodeList {
		m.rows(id, api.TokEndList, func(t api.Token) int { return m.value(t, "", deep+1) })
	} else {
		m.rows(id, api.TokEndObject, func(t api.Token) int { return m.member(t, deep+1) })
	}
	return id
}

func (m *model) text(t api.Token) string {
	switch t.Kind {
	case api.TokNumber:
		return string(m.b[t.From:t.To])
	case api.TokText:
		s, _ := scan.Text(m.b, t)
		return s
	default:
		return ""
	}
}

func (m *model) rows(id, end int, part func(t api.Token) int) {
	t := m.next()
	if t.Kind == end {
		return
	}
	for {
		kid := part(t)
		m.list[id].kids = append(m.list[id].kids, kid)
		t = m.next()
		if t.Kind == end {
			return
		}
		if t.Kind != api.TokComma {
			m.refuse(t)
		}
		t = m.next()
	}
}

func (m *model) member(t api.Token, deep int) int {
	if t.Kind != api.TokText {
		m.refuse(t)
	}
	colon := m.next()
	if colon.Kind != api.TokColon {
		m.refuse(colon)
	}
	return m.value(m.next(), m.text(t), deep)
}

// check asks for a text, or an error, and for all that a text tells. It answers whether there is one.
func check(t *testing.T, s string, most api.Bounds) bool {
	t.Helper()
	list, err := asRule(s, most)
	var f *api.Fault
	if errors.As(err, &f) {
		refused(t, s, most, f.Kind, f.At)
		return false
	}
	d, err := jsonp.Parse([]byte(s), most)
	if d == nil || err != nil {
		t.Errorf("%q: %v", s, err)
		return false
	}
	same(t, s, d.Len(), len(list))
	for id := range list {
		checkValue(t, s, d, list, id)
	}
	return true
}

func checkValue(t *testing.T, s string, d *jsonp.Doc, list []value, id int) {
	t.Helper()
	v := list[id]
	n, ok := d.Node(id)
	same(t, s, []any{n, ok}, []any{v.node, true})
	switch v.node.Kind {
	case api.NodeList:
		items, err := d.Items(id)
		sameList(t, s, items, v.kids...)
		same(t, s, err, error(nil))
	case api.NodeObject:
		checkObject(t, s, d, list, id)
	case api.NodeText:
		text, err := d.Text(id)
		same(t, s, []any{text, err}, []any{v.node.Text, nil})
	}
}

func checkObject(t *testing.T, s string, d *jsonp.Doc, list []value, id int) {
	t.Helper()
	var want []int
	for i, kid := range list[id].kids {
		key := list[kid].node.Key
		again := func(other int) bool { return list[other].node.Key == key }
		if slices.ContainsFunc(list[id].kids[i+1:], again) {
			continue
		}
		want = append(want, kid)
		got, err := d.Member(id, key)
		same(t, s, []any{got, err}, []any{kid, nil})
	}
	members, err := d.Members(id)
	sameList(t, s, members, want...)
	same(t, s, err, error(nil))
}

// The chapter's example.
func TestExample(t *testing.T) {
	d := read(t, `{"a":1,"b":[true],"a":2}`)
	same(t, "Len", d.Len(), 5)
	members, err := d.Members(0)
	sameList(t, "Members", members, 2, 4)
	same(t, "its error", err, error(nil))
	member, err := d.Member(0, "a")
	same(t, "Member", []any{member, err}, []any{4, nil})
}

// P7.1: too many bytes are told ahead of all that is wrong in them.
func TestBytes(t *testing.T) {
	for _, s := range []string{"", "1", "[1]", " 1 ", "\xff\xff", "]]]", `"a`} {
		for bytes := range len(s) {
			refused(t, s, api.Bounds{Bytes: bytes, Deep: 9, Nodes: 9}, api.ErrLong, bytes)
			refused(t, s, api.Bounds{Bytes: bytes}, api.ErrLong, bytes)
		}
		for _, bytes := range []int{-1, -2, -1 << 32, math.MinInt} {
			refused(t, s, api.Bounds{Bytes: bytes, Deep: 9, Nodes: 9}, api.ErrLong, 0)
		}
		for _, bytes := range []int{len(s), len(s) + 1, math.MaxInt} {
			check(t, s, api.Bounds{Bytes: bytes, Deep: 9, Nodes: 9})
		}
	}
	refused(t, "", api.Bounds{}, api.ErrShort, 0)
	d, err := jsonp.Parse(nil, wide)
	wrong(t, "nil", err, api.ErrShort, 0)
	if d != nil {
		t.Error("a text beside an error")
	}
}

// P7.1
func TestErrors(t *testing.T) {
	for _, c := range []struct {
		s    string
		kind api.Errno
		at   int
	}{
		{"", api.ErrShort, 0}, {" \t\r\n", api.ErrShort, 4}, {"[", api.ErrShort, 1}, {"[ ", api.ErrShort, 2}, {"{", api.ErrShort, 1}, {"[1", api.ErrShort, 2}, {"[1,", api.ErrShort, 3}, {"[[]", api.ErrShort, 3}, {`{"a"`, api.ErrShort, 4}, {`{"a":`, api.ErrShort, 5}, {`{"a":1 `, api.ErrShort, 7}, {`{"a":1,`, api.ErrShort, 7},
		{"]", api.ErrForm, 0}, {" }", api.ErrForm, 1}, {",", api.ErrForm, 0}, {":", api.ErrForm, 0}, {"1 1", api.ErrForm, 2}, {"01", api.ErrForm, 1}, {"[] []", api.ErrForm, 3}, {"1,", api.ErrForm, 1}, {"[1]]", api.ErrForm, 3}, {`"a":1`, api.ErrForm, 3}, {`{}"`, api.ErrShort, 3}, {"[]\x00", api.ErrForm, 2},
		{"[,", api.ErrForm, 1}, {"[1,]", api.ErrForm, 3}, {"[1,,1]", api.ErrForm, 3}, {"[1 1]", api.ErrForm, 3}, {"[}", api.ErrForm, 1}, {"[1}", api.ErrForm, 2}, {"[:", api.ErrForm, 1}, {`["a":1]`, api.ErrForm, 4},
		{"{]", api.ErrForm, 1}, {"{,", api.ErrForm, 1}, {"{1:1}", api.ErrForm, 1}, {"{null:1}", api.ErrForm, 1}, {"{[]:1}", api.ErrForm, 1}, {`{"a"}`, api.ErrForm, 4}, {`{"a",`, api.ErrForm, 4}, {`{"a" "b"`, api.ErrForm, 5}, {`{"a"::`, api.ErrForm, 5}, {`{"a":}`, api.ErrForm, 5}, {`{"a":,`, api.ErrForm, 5}, {`{"a":1]`, api.ErrForm, 6}, {`{"a":1 "b"`, api.ErrForm, 7}, {`{"a":1,}`, api.ErrForm, 7}, {`{"a":1,,`, api.ErrForm, 7}, {`{"a":1,1`, api.ErrForm, 7}, {`{"a":1:`, api.ErrForm, 6},
		{"x", api.ErrForm, 0}, {"[1,tru]", api.ErrForm, 6}, {"[1,tru", api.ErrShort, 6}, {"[-]", api.ErrForm, 2}, {`["` + "\xff", api.ErrUTF, 2}, {`{"\ud800":1}`, api.ErrForm, 2}, {`{"a` + "\n", api.ErrForm, 3}, {`{"a":"` + "é\xc3", api.ErrUTF, 8}, {"1 \xff", api.ErrForm, 2}, {"\ufeff1", api.ErrForm, 0}, {"1 //", api.ErrForm, 2},
	} {
		refused(t, c.s, wide, c.kind, c.at)
		check(t, c.s, wide)
	}
}

// P7.1: of one token layer 6's error comes ahead of that it can't stand there, and that ahead of the bounds; but those of a token ahead come first.
func TestFirstError(t *testing.T) {
	none := api.Bounds{Bytes: 99}
	for _, c := range []struct {
		s    string
		most api.Bounds
		kind api.Errno
		at   int
	}{
		{`1 "` + "\xff", wide, api.ErrUTF, 3}, {`1 "a`, wide, api.ErrShort, 4}, {`{"a" tru`, wide, api.ErrShort, 8}, {`[1 nul]`, wide, api.ErrForm, 6}, {`1 1 "` + "\xff", wide, api.ErrForm, 2}, {`[1,] "`, wide, api.ErrForm, 3},
		{`"a` + "\x01", none, api.ErrForm, 2}, {`"a`, none, api.ErrShort, 2}, {"nulx", none, api.ErrForm, 3}, {" ]", none, api.ErrForm, 1}, {" ", none, api.ErrShort, 1},
		{" 1", none, api.ErrMany, 1}, {" [", none, api.ErrMany, 1}, {` "a"`, none, api.ErrMany, 1}, {"{}", none, api.ErrMany, 0},
		{" [", api.Bounds{Bytes: 99, Nodes: 1}, api.ErrDeep, 1}, {" {", api.Bounds{Bytes: 99, Nodes: 1}, api.ErrDeep, 1}, {"[[", api.Bounds{Bytes: 99, Nodes: 1, Deep: 1}, api.ErrMany, 1}, {"[[", api.Bounds{Bytes: 99, Nodes: 2, Deep: 1}, api.ErrDeep, 1},
		{`[1,x`, api.Bounds{Bytes: 99, Nodes: 1, Deep: 1}, api.ErrMany, 1}, {`["` + "\xff\"", api.Bounds{Bytes: 99, Nodes: 1, Deep: 1}, api.ErrUTF, 2}, {`{"a":1}`, api.Bounds{Bytes: 99, Nodes: 1, Deep: 1}, api.ErrMany, 5}, {`{"a" 1}`, api.Bounds{Bytes: 99, Nodes: 1, Deep: 1}, api.ErrForm, 5},
	} {
		refused(t, c.s, c.most, c.kind, c.at)
		check(t, c.s, c.most)
	}
}

// P7.1: of values no key is one; all that has begun counts, be it ended or not, and alike values too.
func TestBoundsOfNodesAndDepth(t *testing.T) {
	for s, want := range map[string]struct{ nodes, deep int }{
		"1": {1, 0}, `"a"`: {1, 0}, "null": {1, 0}, "[]": {1, 1}, "{}": {1, 1}, "[1,1,1]": {4, 1}, `{"a":1,"a":1}`: {3, 1}, "[[],[],[[]]]": {5, 3},
		`{"a":{"b":{"c":[]}},"d":{}}`: {5, 4}, `[[1],[2,[3]],{"a":[4]}]`: {10, 3}, `{"":[{"":[]}]}`: {4, 4},
	} {
		for nodes := -1; nodes < want.nodes+2; nodes++ {
			for deep := -1; deep < want.deep+2; deep++ {
				there := check(t, s, api.Bounds{Bytes: 99, Nodes: nodes, Deep: deep})
				same(t, s, there, nodes >= want.nodes && (deep >= want.deep || want.deep == 0))
			}
		}
		same(t, s, check(t, s, api.Bounds{Bytes: math.MaxInt, Nodes: math.MaxInt, Deep: math.MaxInt}), true)
		check(t, s, api.Bounds{Bytes: math.MaxInt, Nodes: math.MinInt, Deep: math.MinInt})
		check(t, s, api.Bounds{Bytes: math.MaxInt, Nodes: math.MaxInt, Deep: math.MinInt})
	}
}

// rows goes through all rows of up to so many tokens; one that is wrong ahead of its end isn't gone on with.
func rows(tokens []string, most int, look func(s string)) {
	var grow func(s string, left int)
	grow = func(s string, left int) {
		look(s)
		_, err := asRule(s, wide)
		if left == 0 || err != nil && !errors.Is(err, api.ErrShort) {
			return
		}
		for _, token := range tokens {
			grow(s+token+" ", left-1)
		}
	}
	grow("", most)
}

// P7.1 to P7.4: every row of tokens, against the rules' own reading, and against another reader.
func TestEveryRow(t *testing.T) {
	rows([]string{"[", "]", "{", "}", ",", ":", `"a"`, "1"}, 8, func(s string) {
		same(t, s, check(t, s, wide), json.Valid([]byte(s)))
		for n := range 4 {
			check(t, s, api.Bounds{Bytes: 99, Nodes: n, Deep: 2})
			check(t, s, api.Bounds{Bytes: 99, Nodes: 9, Deep: n})
		}
	})
	rows([]string{"[", "]", "true", "false", "null", "-1.5e+2", `"\u0061\n"`, ","}, 5, func(s string) {
		same(t, s, check(t, s, wide), json.Valid([]byte(s)))
	})
	rows([]string{"{", "}", `"a":`, `"b":`, `"\u0061":`, `"":`, "0", ","}, 9, func(s string) {
		same(t, s, check(t, s, wide), json.Valid([]byte(s)))
	})
}

// P7.1: a text that is cut off anywhere, with anything else in the place of any byte.
func TestCutAndChanged(t *testing.T) {
	s := ` {"a" : [ 1.5 , "\ud83d\ude00é" , {"":null} ] , "a":true,"b":[ ] } `
	same(t, s, check(t, s, wide), true)
	for at := range s {
		check(t, s[:at], wide)
		check(t, s[at:], wide)
		for _, c := range "\x00 {}[]:,\"\\0-.eatu\xff" {
			check(t, s[:at]+string(c)+s[at+1:], wide)
			check(t, s[:at]+string(c)+s[at:], wide)
		}
	}
}

// full has a value of each kind: 0 the object, 1 to 8 its members, of which 7 is a list of 8 to 10, 11 an object.
const full = `{"n":null,"f":false,"t":true,"d":-1.50E+2, "s":"\u00e9\n","e":"" ,"l":["x",1,"y"],"o":{"p":{}},"m":["x","","\/"],"":[]}`

// P7.2
func TestNode(t *testing.T) {
	d := read(t, full)
	want := []api.Node{
		{Kind: api.NodeObject}, {Kind: api.NodeNull, Key: "n", At: 5}, {Kind: api.NodeFalse, Key: "f", At: 14}, {Kind: api.NodeTrue, Key: "t", At: 24}, {Kind: api.NodeNumber, Key: "d", Text: "-1.50E+2", At: 33}, {Kind: api.NodeText, Key: "s", Text: "é\n", At: 47}, {Kind: api.NodeText, Key: "e", At: 62},
		{Kind: api.NodeList, Key: "l", At: 70}, {Kind: api.NodeText, Text: "x", At: 71}, {Kind: api.NodeNumber, Text: "1", At: 75}, {Kind: api.NodeText, Text: "y", At: 77}, {Kind: api.NodeObject, Key: "o", At: 86}, {Kind: api.NodeObject, Key: "p", At: 91},
		{Kind: api.NodeList, Key: "m", At: 99}, {Kind: api.NodeText, Text: "x", At: 100}, {Kind: api.NodeText, At: 104}, {Kind: api.NodeText, Text: "/", At: 107}, {Kind: api.NodeList, At: 116},
	}
	same(t, "Len", d.Len(), len(want))
	for id, n := range want {
		got, ok := d.Node(id)
		same(t, "Node", []any{got, ok}, []any{n, true})
	}
	for _, id := range append([]int{len(want), len(want) + 1}, ids...) {
		if id < 0 || id >= len(want) {
			got, ok := d.Node(id)
			same(t, "Node", []any{got, ok}, []any{api.Node{}, false})
		}
	}
}

// call is a call of a text, with what it answers beside an error told as one.
type call struct {
	kinds []int
	ask   func(d *jsonp.Doc, id int) (empty bool, err error)
}

func calls() map[string]call {
	return map[string]call{
		"Items": {[]int{api.NodeList}, func(d *jsonp.Doc, id int) (bool, error) {
			list, err := d.Items(id)
			return len(list) == 0, err
		}},
		"Members": {[]int{api.NodeObject}, func(d *jsonp.Doc, id int) (bool, error) {
			list, err := d.Members(id)
			return len(list) == 0, err
		}},
		"Member": {[]int{api.NodeObject}, func(d *jsonp.Doc, id int) (bool, error) {
			member, err := d.Member(id, "p")
			return member == 0, err
		}},
		"Text": {[]int{api.NodeText}, func(d *jsonp.Doc, id int) (bool, error) {
			s, err := d.Text(id)
			return s == "", err
		}},
		"Flag": {[]int{api.NodeFalse, api.NodeTrue}, func(d *jsonp.Doc, id int) (bool, error) {
			flag, err := d.Flag(id)
			return !flag, err
		}},
		"Texts": {[]int{api.NodeList}, func(d *jsonp.Doc, id int) (bool, error) {
			list, err := d.Texts(id)
			return len(list) == 0, err
		}},
	}
}

// P7.2 to P7.4: each call of a number that there isn't, and of each kind of value.
func TestCallsOfOtherKinds(t *testing.T) {
	d := read(t, full)
	for name, c := range calls() {
		for _, id := range append([]int{d.Len()}, ids...) {
			if id >= 0 && id < d.Len() {
				continue
			}
			empty, err := c.ask(d, id)
			wrong(t, name, err, api.ErrName, id)
			same(t, name, empty, true)
		}
		for id := range d.Len() {
			n, _ := d.Node(id)
			empty, err := c.ask(d, id)
			if !slices.Contains(c.kinds, n.Kind) {
				wrong(t, name, err, api.ErrKind, n.At)
				same(t, name, empty, true)
			} else if errors.Is(err, api.ErrKind) && name != "Texts" {
				t.Errorf("%s of %v: %v", name, n, err)
			}
		}
	}
}

// P7.3
func TestItems(t *testing.T) {
	d := read(t, `[[],[1],[1,[2,3],1],{"a":1}]`)
	for id, want := range map[int][]int{0: {1, 2, 4, 10}, 1: {}, 2: {3}, 4: {5, 6, 9}, 6: {7, 8}} {
		items, err := d.Items(id)
		sameList(t, "Items", items, want...)
		same(t, "its error", err, error(nil))
	}
}

// P7.3: keys are held against each other as what they stand for, great and small letters apart.
func TestMembers(t *testing.T) {
	for s, want := range map[string][]int{
		"{}": {}, `{"a":1}`: {1}, `{"a":1,"b":2}`: {1, 2}, `{"b":1,"a":2}`: {1, 2}, `{"a":1,"a":2}`: {2}, `{"a":1,"b":2,"a":3,"b":4}`: {3, 4}, `{"a":1,"b":2,"c":3,"a":4}`: {2, 3, 4}, `{"a":1,"a":2,"b":3}`: {2, 3},
		`{"a":[1,2],"a":[3],"b":{"a":4}}`: {4, 6}, `{"a":1,"\u0061":2}`: {2}, `{"a":1,"A":2}`: {1, 2}, `{"":1,"":2," ":3}`: {2, 3}, `{"é":1,"\u00e9":2,"e":3}`: {2, 3}, `{"\ud83d\ude00":1,"😀":2}`: {2},
	} {
		members, err := read(t, s).Members(0)
		sameList(t, s, members, want...)
		same(t, s, err, error(nil))
	}
}

// P7.3
func TestMember(t *testing.T) {
	text := `[ {"a":1,"b":{"c":2},"\u0061":[],"":3,"c\u0000":4}, {} ]`
	d := read(t, text)
	for key, want := range map[string]int{"a": 5, "b": 3, "": 6, "c\x00": 7} {
		member, err := d.Member(1, key)
		same(t, key, []any{member, err}, []any{want, nil})
	}
	member, err := d.Member(3, "c")
	same(t, "c", []any{member, err}, []any{4, nil})
	for _, key := range []string{"c", "A", "a ", "0", "aa", "\xff", "\x00", `\u0061`} {
		member, err := d.Member(1, key)
		wrong(t, key, err, api.ErrName, 2)
		same(t, key, member, 0)
	}
	for _, c := range []struct{ id, at int }{{3, strings.Index(text, `{"c"`)}, {8, strings.Index(text, "{}")}} {
		member, err := d.Member(c.id, "a")
		wrong(t, "a", err, api.ErrName, c.at)
		same(t, "a", member, 0)
	}
	for _, id := range []int{0, 2, 5} {
		n, _ := d.Node(id)
		_, err := d.Member(id, "a")
		wrong(t, "a", err, api.ErrKind, n.At)
	}
}

// P7.4
func TestTextFlagAndTexts(t *testing.T) {
	d := read(t, full)
	for id, want := range map[int]string{5: "é\n", 6: "", 8: "x", 10: "y", 15: "", 16: "/"} {
		s, err := d.Text(id)
		same(t, "Text", []any{s, err}, []any{want, nil})
	}
	for id, want := range map[int]bool{2: false, 3: true} {
		flag, err := d.Flag(id)
		same(t, "Flag", []any{flag, err}, []any{want, nil})
	}
	for id, want := range map[int][]string{13: {"x", "", "/"}, 17: {}} {
		list, err := d.Texts(id)
		sameList(t, "Texts", list, want...)
		same(t, "its error", err, error(nil))
	}
}

// P7.4: it is the first other value that counts, and none of the texts is told beside it.
func TestTextsOfOthers(t *testing.T) {
	for s, at := range map[string]int{`[1]`: 1, `["a",null,"b",2]`: 5, `["a", true]`: 6, `["a","b",["c"]]`: 9, `[{"a":"b"},"c"]`: 1, `["a",[],{}]`: 5, `{"a":"b"}`: 0, ` "a"`: 1} {
		list, err := read(t, s).Texts(0)
		wrong(t, s, err, api.ErrKind, at)
		sameList(t, s, list)
	}
}

// P7.5: the bytes stay as they are, and may be written over; their room is none of them.
func TestHandedIn(t *testing.T) {
	room := []byte(full + "1]}")
	b := room[:len(full)]
	d, err := jsonp.Parse(b, wide)
	same(t, "Parse's error", err, error(nil))
	same(t, "the bytes", string(room), full+"1]}")
	clear(room)
	want := read(t, full)
	for id := range want.Len() {
		got, _ := d.Node(id)
		n, _ := want.Node(id)
		same(t, "Node", got, n)
	}
	list, _ := d.Texts(13)
	sameList(t, "Texts", list, "x", "", "/")
}

// P7.5: lists are by themselves, their spare room too.
func TestAnswersAreNew(t *testing.T) {
	d := read(t, full)
	for name, ask := range map[string]func(int) ([]int, error){"Items": d.Items, "Members": d.Members} {
		for id := range d.Len() {
			one, _ := ask(id)
			other, _ := ask(id)
			want := slices.Clone(other)
			one = one[:cap(one)]
			for i := range one {
				one[i] = -7
			}
			sameList(t, name, other, want...)
			again, _ := ask(id)
			sameList(t, name, again, want...)
		}
	}
	one, _ := d.Texts(13)
	other, _ := d.Texts(13)
	clear(one[:cap(one)])
	sameList(t, "Texts", other, "x", "", "/")

	_, errA := d.Text(99)
	_, errB := d.Text(99)
	errA.(*api.Fault).At = 9
	wrong(t, "Text", errB, api.ErrName, 99)
}

// P7.5: what is done with one text isn't seen in another.
func TestTextsByThemselves(t *testing.T) {
	b := []byte(`["a"]`)
	one, _ := jsonp.Parse(b, wide)
	b[2] = 'b'
	other, _ := jsonp.Parse(b, wide)
	s, _ := one.Text(1)
	same(t, "the first", s, "a")
	s, _ = other.Text(1)
	same(t, "the second", s, "b")
}

// P1: as deep as the document's bound for parts in one another, and deeper; and long rows.
func TestGreatTexts(t *testing.T) {
	const size = 1 << 18
	lists := strings.Repeat("[", size)
	refused(t, lists, wide, api.ErrShort, size)
	refused(t, lists, api.Bounds{Bytes: size, Deep: size - 1, Nodes: size}, api.ErrDeep, size-1)
	same(t, "lists", read(t, lists+strings.Repeat("]", size)).Len(), size)
	objects := read(t, strings.Repeat(`{"a":`, size)+"1"+strings.Repeat("}", size))
	same(t, "objects", objects.Len(), size+1)
	member, err := objects.Member(size-1, "a")
	same(t, "the innermost", []any{member, err}, []any{size, nil})

	row := read(t, "["+strings.Repeat(`"a",`, size)+`"b"]`)
	list, err := row.Texts(0)
	same(t, "a row", []any{len(list), err, list[size]}, []any{size + 1, nil, "b"})
	keys := read(t, "{"+strings.Repeat(`"a":1,`, size)+`"b":2}`)
	members, err := keys.Members(0)
	sameList(t, "alike keys", members, size, size+1)
	same(t, "its error", err, error(nil))
}

// P1 and P2: all calls end, none panics, and a second run answers what the first one did.
func TestAnyArguments(t *testing.T) {
	texts := []string{"", full, full[:20], `{"b":1,"a":2,"d":3,"c":4,"b":5}`, "[", "\xff", "[[[1]]]", "1 1"}
	numbers := []int{math.MinInt, -1, 0, 1, 3, math.MaxInt}
	run := func() []any {
		var all []any
		for _, s := range texts {
			for _, deep := range numbers {
				for _, nodes := range numbers {
					d, err := jsonp.Parse([]byte(s), api.Bounds{Bytes: 999, Deep: deep, Nodes: nodes})
					all = append(all, err)
					if err == nil {
						all = append(all, tell(d)...)
					}
				}
			}
		}
		return all
	}
	same(t, "the second run", run(), run())
}

// tell tells all that a text tells of any number.
func tell(d *jsonp.Doc) []any {
	all := []any{d.Len()}
	for _, id := range ids {
		n, ok := d.Node(id)
		items, errI := d.Items(id)
		members, errM := d.Members(id)
		member, errB := d.Member(id, "b")
		s, errT := d.Text(id)
		flag, errF := d.Flag(id)
		list, errL := d.Texts(id)
		all = append(all, n, ok, items, errI, members, errM, member, errB, s, errT, flag, errF, list, errL)
	}
	return all
}
