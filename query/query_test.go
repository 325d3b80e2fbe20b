package query_test

import (
	"errors"
	neturl "net/url"
	"reflect"
	"slices"
	"strconv"
	"strings"
	"testing"
	"unicode/utf8"
	"unsafe"

	"waybill/api"
	"waybill/fold"
	"waybill/glob"
	"waybill/query"
)

// everyByte has each byte once, in order.
var everyByte = func() string {
	b := make([]byte, 256)
	for i := range b {
		b[i] = byte(i)
	}
	return string(b)
}()

// bare is an item without a value, pair one with a value.
func bare(name string) api.Item        { return api.Item{Name: name} }
func pair(name, value string) api.Item { return api.Item{Name: name, Value: value, Has: true} }

func list(items ...api.Item) []api.Item { return items }

func same(t *testing.T, what string, got, want any) {
	t.Helper()
	if !reflect.DeepEqual(got, want) {
		t.Errorf("%q: got %#v, want %#v", what, got, want)
	}
}

// items asks for the items, whether there are some or none.
func items(t *testing.T, s string, want []api.Item) {
	t.Helper()
	got, err := query.Items(s)
	if err != nil || !slices.Equal(got, want) {
		t.Errorf("Items of %q: got %#v, %v, want %#v", s, got, err, want)
	}
}

// refuses asks for the error itself, for what errors.Is and errors.As tell of it, and for nothing beside it.
func refuses(t *testing.T, s string, kind api.Errno, at int) {
	t.Helper()
	got, err := query.Items(s)
	var f *api.Fault
	if !errors.As(err, &f) {
		t.Errorf("Items of %q: got %v, want errno %d at %d", s, err, kind, at)
		return
	}
	if f.Kind != kind || f.At != at || !errors.Is(err, kind) {
		t.Errorf("Items of %q: got errno %d at %d, want %d at %d", s, f.Kind, f.At, kind, at)
	}
	if len(got) != 0 {
		t.Errorf("Items of %q: %#v beside an error", s, got)
	}
}

// words are all texts of at most so many of the letters, the empty one among them.
func words(letters []string, most int) []string {
	all, from := []string{""}, 0
	for range most {
		to := len(all)
		for _, w := range all[from:to] {
			for _, l := range letters {
				all = append(all, w+l)
			}
		}
		from = to
	}
	return all
}

// P16.1, and the chapter's first example.
func TestItems(t *testing.T) {
	for s, want := range map[string][]api.Item{
		"a=1&&b&%63=%64": list(pair("a", "1"), bare("b"), pair("c", "d")),
		"":               nil, "&": nil, "&&&": nil,
		"a": list(bare("a")), "a=": list(pair("a", "")), "=": list(pair("", "")), "=a": list(pair("", "a")), "==": list(pair("", "=")), "a==b": list(pair("a", "=b")), "a=b=c=": list(pair("a", "b=c=")),
		"&a": list(bare("a")), "a&": list(bare("a")), "&&a&&=&&": list(bare("a"), pair("", "")), "a&a&a=": list(bare("a"), bare("a"), pair("a", "")), "b&a": list(bare("b"), bare("a")),
		"%3d": list(bare("=")), "%3D=%3d": list(pair("=", "=")), "a%3Db": list(bare("a=b")), "a%26b": list(bare("a&b")), "a=%26&b": list(pair("a", "&"), bare("b")), "%25=%2541": list(pair("%", "%41")), "%00": list(bare("\x00")),
		"a+b=c+d": list(pair("a+b", "c+d")), "a;b": list(bare("a;b")), "a b=\n?/#": list(pair("a b", "\n?/#")), "é=€": list(pair("é", "€")), "%c3%A9=😀": list(pair("é", "😀")), "\xc3%a9": list(bare("é")), "%C3\xa9=%20": list(pair("é", " ")), "%F0%9f%98%80": list(bare("😀")), "A=B&a=b": list(pair("A", "B"), pair("a", "b")),
	} {
		items(t, s, want)
	}
}

// P16.1: empty parts are none of the 256.
func TestItemsMany(t *testing.T) {
	var want []api.Item
	for i := range api.MaxItems {
		want = append(want, pair("a", strconv.Itoa(i)))
	}
	full := query.Text(want)
	items(t, full, want)
	items(t, full+"&", want)
	items(t, "&"+strings.ReplaceAll(full, "&", "&&&")+strings.Repeat("&", 999), want)
	for _, last := range []string{"b", "=", "%", "%ff", "b&%", "b&c&d", "b&"} {
		refuses(t, full+"&"+last, api.ErrMany, len(full)+1)
		refuses(t, "&&"+full+"&&&&"+last, api.ErrMany, len(full)+6)
	}
	refuses(t, strings.Repeat("a&", 9999), api.ErrMany, 512)
	refuses(t, strings.Repeat("&=", 257), api.ErrMany, 513)
	items(t, strings.Repeat("&", 9999), nil)
	// A part with room that is wrong is told ahead of one that has none.
	refuses(t, strings.Repeat("a&", 255)+"b%&c", api.ErrForm, 511)
	refuses(t, strings.Repeat("a&", 255)+"%ff&c", api.ErrUTF, 510)
}

// P16.1: the place is one in all of the text, of the first part that is wrong; in one part escapes come ahead of characters.
func TestItemsErrors(t *testing.T) {
	for s, at := range map[string]int{
		"%": 0, "%4": 0, "a%": 1, "a=%": 2, "a=%4": 2, "a=%41%4": 5, "a&%zz": 2, "&&a&b=c&%g0=1": 8, "%=1": 0, "%4=1": 0, "%=%": 0, "a%4&1": 1, "%&%": 0, "é=%": 3, "a=b=%": 4, "%41=%zz": 4, "a=%4&b=%": 2,
		"%ff%": 3, "a=%ff%4": 5, "%ff=%": 4, "\xff=%": 2, "=%": 1, "a&b&=%é": 5, "%4%31": 0, "%%34%31": 0,
	} {
		refuses(t, s, api.ErrForm, at)
		refuses(t, s+"&%ff&%", api.ErrForm, at)
		refuses(t, "a=%41&"+s, api.ErrForm, at+6)
	}
	for s, at := range map[string]int{
		"\xff": 0, "%ff": 0, "a%ff": 0, "a=%ff": 0, "a&b=%ff": 2, "a&b=\xff": 2, "&&bc=1\xff": 2, "%c3": 0, "%c3=%a9": 0, "%c3&%a9": 0, "a&=%ED%A0%80": 2, "%c0%80": 0, "a=%f4%90%80%80": 0, "é&%e2%82": 3, "=\x80": 0, "%ff&%": 0, "a&\xff&b=%": 2, "%80=%80": 0,
	} {
		refuses(t, s, api.ErrUTF, at)
		refuses(t, s+"&%&%ff", api.ErrUTF, at)
		refuses(t, "&%41&"+s, api.ErrUTF, at+5)
	}
}

// asRule is the chapter's rule for the items, by the means of the language's own library; beside an error the list is empty.
func asRule(s string) (list []api.Item, kind api.Errno, at int) {
	for _, part := range strings.Split(s, "&") {
		name, value, has := strings.Cut(part, "=")
		plainName, errName := neturl.PathUnescape(name)
		plainValue, errValue := neturl.PathUnescape(value)
		switch {
		case errName != nil:
			return nil, api.ErrForm, at + wrongEscape(name)
		case errValue != nil:
			return nil, api.ErrForm, at + len(name) + 1 + wrongEscape(value)
		case !utf8.ValidString(plainName) || !utf8.ValidString(plainValue):
			return nil, api.ErrUTF, at
		case part != "":
			list = append(list, api.Item{Name: plainName, Value: plainValue, Has: has})
		}
		at += len(part) + 1
	}
	return list, 0, 0
}

// wrongEscape is how much of a text is right ahead of its first wrong escape.
func wrongEscape(s string) int {
	for at := range len(s) {
		if s[at] != '%' {
			continue
		}
		if _, err := neturl.PathUnescape(s[at:min(at+3, len(s))]); err != nil {
			return at
		}
	}
	return -1
}

// P16.1: of all short texts.
func TestItemsOfAll(t *testing.T) {
	for _, s := range words([]string{"a", "&", "=", "%", "41", "\xff", "%C3", "%a9"}, 5) {
		list, kind, at := asRule(s)
		if kind != 0 {
			refuses(t, s, kind, at)
			continue
		}
		items(t, s, list)
	}
}

// P16.2
func TestText(t *testing.T) {
	for _, c := range []struct {
		list []api.Item
		want string
	}{
		{nil, ""}, {list(bare("")), ""}, {list(bare("a")), "a"}, {list(pair("a", "")), "a="}, {list(pair("", "")), "="}, {list(pair("", "a")), "=a"}, {list(pair("a", "b"), bare("c"), pair("d", "")), "a=b&c&d="},
		{list(bare(""), bare("a"), bare(""), bare("b"), bare("")), "a&b"}, {list(bare(""), bare("")), ""}, {list(pair("", ""), bare(""), pair("", "")), "=&="}, {list(bare("a"), bare("a")), "a&a"}, {list(bare("b"), bare("a")), "b&a"},
		{list(api.Item{Name: "a", Value: "left out"}), "a"}, {list(api.Item{Value: "left out"}), ""}, {list(api.Item{Value: "left out"}, bare("b")), "b"},
		{list(pair("a b", "c&d=e")), "a%20b=c%26d%3De"}, {list(pair("=", "=")), "%3D=%3D"}, {list(bare("&")), "%26"}, {list(pair("%41", "%")), "%2541=%25"}, {list(pair("é", "/?#+;:@!$'()*,")), "%C3%A9=%2F%3F%23%2B%3B%3A%40%21%24%27%28%29%2A%2C"}, {list(pair("-._~", "AZaz09")), "-._~=AZaz09"}, {list(pair("\xff", "\x00\n")), "%FF=%00%0A"},
		{list(pair("q", "a b"), bare("x"), pair("y", ""), pair("z", "1=2")), "q=a%20b&x&y=&z=1%3D2"},
	} {
		same(t, "Text for "+c.want, query.Text(c.list), c.want)
	}
	long := query.Text(slices.Repeat(list(pair("a", ".")), 999))
	same(t, "Text of more than 256", long, strings.Repeat("a=.&", 998)+"a=.")
	for i := range 256 {
		c := everyByte[i : i+1]
		want := "%" + fold.HexDigits(uint64(i), 2)
		if fold.All(c, "ABCDEFGHIJKLMNOPQRSTUVWXYZabcdefghijklmnopqrstuvwxyz0123456789-._~") {
			want = c
		}
		same(t, "Text of "+c, query.Text(list(pair(c, c))), want+"="+want)
	}
}

// P16.2: there and back.
func TestItemsOfText(t *testing.T) {
	texts := []string{"", "a", "=", "&", "%41", "a b", "é", "+", everyByte[:0x80]}
	all := list()
	for _, name := range texts {
		if name != "" {
			all = append(all, bare(name))
		}
		for _, value := range texts {
			all = append(all, pair(name, value))
		}
	}
	items(t, query.Text(all), all)
	for _, a := range all {
		items(t, query.Text(list(a)), list(a))
		for _, b := range all {
			items(t, query.Text(list(a, b)), list(a, b))
		}
	}
	full := slices.Repeat(list(pair("", "")), api.MaxItems)
	items(t, query.Text(full), full)
	refuses(t, query.Text(append(full, bare("a"))), api.ErrMany, 512)
	refuses(t, query.Text(list(bare("a"), pair("b", "\xff"))), api.ErrUTF, 2)
}

// P16.3
func TestValues(t *testing.T) {
	all := list(pair("a", "1"), bare("b"), pair("a", ""), pair("A", "2"), bare("a"), pair("", "3"), pair("ab", "4"), pair("a", "1"), pair("é", "\xff"), bare(""))
	for name, want := range map[string][]string{"a": {"1", "", "", "1"}, "A": {"2"}, "b": {""}, "ab": {"4"}, "": {"3", ""}, "é": {"\xff"}, "c": nil, "É": nil, "*": nil, "?": nil, "\xff": nil} {
		if got := query.Values(all, name); !slices.Equal(got, want) {
			t.Errorf("Values of %q: got %q, want %q", name, got, want)
		}
	}
	same(t, "the count of values of nothing", len(query.Values(nil, "")), 0)
	same(t, "the values of an item without Has", query.Values(list(api.Item{Name: "a", Value: "x"}), "a"), []string{"x"})
	same(t, "the values of names that are no characters", query.Values(list(pair("\xff", "1"), pair("\xfe", "2")), "\xfe"), []string{"2"})
	same(t, "the count of values of many items", len(query.Values(slices.Repeat(all, 999), "a")), 4*999)
}

// P16.3
func TestNames(t *testing.T) {
	for _, c := range []struct {
		list []api.Item
		want []string
	}{
		{nil, nil}, {list(bare("a")), []string{"a"}}, {list(bare("b"), pair("a", "1"), pair("b", "2"), bare("a")), []string{"b", "a"}}, {list(bare("a"), bare("A"), bare("é"), bare("É")), []string{"a", "A", "é", "É"}}, {list(pair("", "1"), bare("")), []string{""}}, {list(bare("a"), bare("a"), bare("a")), []string{"a"}}, {list(bare("\xff"), bare("\xfe"), bare("\xff")), []string{"\xff", "\xfe"}},
	} {
		if got := query.Names(c.list); !slices.Equal(got, c.want) {
			t.Errorf("Names of %v: got %q, want %q", c.list, got, c.want)
		}
	}
	var many []api.Item
	var want []string
	for i := range 5000 {
		many = append(many, bare(strconv.Itoa(i)), bare(strconv.Itoa(i/2)))
		want = append(want, strconv.Itoa(i))
	}
	same(t, "Names of many", query.Names(many), want)
}

// P16.3
func TestWanted(t *testing.T) {
	all := list(pair("a", "1"), bare("b"), pair("a", "XY"), pair("", "z"), pair("é", "€"), api.Item{Name: "n", Value: "v"}, pair("w", "\xff"), pair("*", "s"), pair("c", ""))
	for _, c := range []struct {
		patterns []api.Item
		fold     bool
		want     bool
	}{
		{nil, false, true}, {nil, true, true},
		{list(pair("a", "1")), false, true}, {list(pair("a", "?")), false, true}, {list(pair("a", "??")), false, true}, {list(pair("a", "???*")), false, false}, {list(pair("a", "")), false, false}, {list(pair("a", "1XY")), false, false}, {list(pair("a", "2")), false, false},
		{list(bare("a")), false, false}, {list(bare("b")), false, true}, {list(pair("b", "")), false, true}, {list(pair("b", "*")), false, true}, {list(pair("b", "?")), false, false}, {list(bare("c")), false, true}, {list(pair("c", "?")), false, false},
		{list(api.Item{Name: "a", Value: "X*"}), false, true}, {list(api.Item{Name: "b", Value: "?"}), false, false},
		{list(pair("n", "v")), false, false}, {list(pair("n", "")), false, true}, {list(bare("n")), false, true}, {list(pair("n", "?*")), false, false},
		{list(pair("a", "xy")), false, false}, {list(pair("a", "xy")), true, true}, {list(pair("a", "x*")), true, true}, {list(pair("A", "*")), true, false}, {list(pair("A", "*")), false, false}, {list(pair("É", "*")), true, false},
		{list(pair("", "z")), false, true}, {list(pair("", "Z")), true, true}, {list(bare("")), false, false}, {list(pair("?", "*")), false, false}, {list(pair("*", "*")), false, true}, {list(pair("*", "1")), false, false}, {list(pair("aa", "*")), false, false},
		{list(pair("é", "?")), false, true}, {list(pair("é", "??")), false, false}, {list(pair("w", "*")), false, false}, {list(pair("a", "\xff")), false, false}, {list(pair("a", "*\xff")), false, false}, {list(pair("a", strings.Repeat("*", 1024))), false, true}, {list(pair("a", strings.Repeat("*", 1025))), false, false},
		{list(pair("a", "1"), bare("b"), pair("a", "XY")), false, true}, {list(pair("a", "1"), pair("a", "1")), false, true}, {list(pair("a", "1"), pair("d", "*")), false, false}, {list(pair("d", "*"), pair("a", "1")), false, false}, {list(pair("a", "1"), pair("a", "2"), pair("b", "")), false, false}, {list(bare("b"), pair("a", "X?"), pair("é", "€")), false, true},
		{slices.Repeat(list(pair("a", "*")), 999), false, true},
	} {
		if got := query.Wanted(all, c.patterns, c.fold); got != c.want {
			t.Errorf("Wanted of %v, fold %v: got %v", c.patterns, c.fold, got)
		}
	}
	same(t, "whether nothing is wanted of nothing", query.Wanted(nil, nil, false), true)
	same(t, "whether something is wanted of nothing", query.Wanted(nil, list(pair("a", "*")), false), false)
}

// P16.3: of one item and one pattern it is what Match tells, where the names are one.
func TestWantedAsMatch(t *testing.T) {
	for _, value := range []string{"", "a", "Ab", "aé", "\xff", "*"} {
		for _, pattern := range append(words([]string{"a", "B", "*", "?"}, 2), "\xff", "**é") {
			for _, folds := range []bool{false, true} {
				want := glob.Match(pattern, value, folds)
				same(t, pattern+" for "+value, query.Wanted(list(pair("x", "no"), pair("n", value)), list(pair("n", pattern)), folds), want)
				same(t, pattern+" for another name's "+value, query.Wanted(list(pair("n", value)), list(pair("N", pattern)), folds), false)
			}
		}
	}
}

// P16.4: neither what is handed in nor its spare room is written to, nor kept.
func TestHandedInStays(t *testing.T) {
	room := list(pair("a", "1"), pair("b", "2"), pair("a", "3"), pair("spare", "4"), bare("room"))
	patterns := list(pair("a", "?"), pair("b", "*"), pair("spare", "*"))
	before, beforePatterns := slices.Clone(room), slices.Clone(patterns)
	values, names, text := query.Values(room[:3], "a"), query.Names(room[:3]), query.Text(room[:3])
	same(t, "whether it is wanted", query.Wanted(room[:3], patterns[:2], true), true)
	same(t, "the items", room, before)
	same(t, "the patterns", patterns, beforePatterns)
	clear(room)
	same(t, "the values, when the items are written over", values, []string{"1", "3"})
	same(t, "the names, when the items are written over", names, []string{"a", "b"})
	same(t, "the text, when the items are written over", text, "a=1&b=2&a=3")
}

// share tells whether two texts lie in one memory.
func share(a, b string) bool {
	from := func(s string) uintptr { return uintptr(unsafe.Pointer(unsafe.StringData(s))) }
	return a != "" && b != "" && from(a) < from(b)+uintptr(len(b)) && from(b) < from(a)+uintptr(len(a))
}

// P16.4: answers lie in none of what is handed in, and in none of another answer.
func TestAnswersAreNew(t *testing.T) {
	const s = "name=value&other"
	all, err := query.Items(s)
	same(t, "the error", err, error(nil))
	again, _ := query.Items(s)
	for _, item := range all {
		same(t, "whether an item lies in the text", share(item.Name, s) || share(item.Value, s), false)
	}
	names, values := query.Names(all), query.Values(all, "name")
	namesAgain, valuesAgain := query.Names(all), query.Values(all, "name")
	same(t, "whether names and values lie in the items", share(names[0], all[0].Name) || share(values[0], all[0].Value), false)
	one := list(bare("plain"))
	same(t, "whether the text lies in the item", share(query.Text(one), one[0].Name), false)
	clear(all[:cap(all)])
	clear(names[:cap(names)])
	clear(values[:cap(values)])
	same(t, "Items, when another answer is written over", again, list(pair("name", "value"), bare("other")))
	same(t, "Names, when another answer is written over", namesAgain, []string{"name", "other"})
	same(t, "Values, when another answer is written over", valuesAgain, []string{"value"})
	_, errA := query.Items("a&%")
	errA.(*api.Fault).At = 9
	refuses(t, "a&%", api.ErrForm, 2)
}

// P1 and P2: all calls end, none panics, and a second run answers what the first one did.
func TestAnyArguments(t *testing.T) {
	texts := []string{"", "a", "=", "&", "%", "%ff", "\xff", "*", everyByte, strings.Repeat("%", 999), strings.Repeat("&", 9999), strings.Repeat("=", 9999), strings.Repeat("a&", 9999), strings.Repeat("*", 1025)}
	var all []api.Item
	for _, name := range texts {
		for _, value := range texts {
			all = append(all, pair(name, value), api.Item{Name: name, Value: value})
		}
	}
	run := func() []any {
		var answers []any
		keep := func(more ...any) { answers = append(answers, more...) }
		for _, s := range texts {
			list, err := query.Items(s)
			keep(list, err, query.Values(all, s), query.Wanted(all, list, false))
		}
		for i := range all {
			one := all[i : i+1]
			keep(query.Text(one), query.Names(one), query.Wanted(all, one, true), query.Wanted(one, all, false))
		}
		keep(query.Text(all), query.Names(all), query.Wanted(all, all, true))
		return answers
	}
	same(t, "the second run", run(), run())
}
