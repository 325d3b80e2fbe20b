package ident_test

import (
	"errors"
	"reflect"
	"slices"
	"strings"
	"testing"
	"unsafe"

	"waybill/api"
	"waybill/ident"
)

const (
	greats  = "ABCDEFGHIJKLMNOPQRSTUVWXYZ"
	letters = greats + "abcdefghijklmnopqrstuvwxyz"
	digits  = "0123456789"
	hexes   = digits + "ABCDEFabcdef"
	team    = "ABCDE12345"
)

// everyByte has each byte once, in order.
var everyByte = func() string {
	b := make([]byte, 256)
	for i := range b {
		b[i] = byte(i)
	}
	return string(b)
}()

// sample has a byte of its own at each place, great and small ones.
var sample = func() (p api.Print) {
	for i := range p {
		p[i] = byte(i * 11)
	}
	return p
}()

const printText = "00:0B:16:21:2C:37:42:4D:58:63:6E:79:84:8F:9A:A5:B0:BB:C6:D1:DC:E7:F2:FD:08:13:1E:29:34:3F:4A:55"

func same(t *testing.T, what string, got, want any) {
	t.Helper()
	if !reflect.DeepEqual(got, want) {
		t.Errorf("%q: got %#v, want %#v", what, got, want)
	}
}

// outcome is what a text is: of kind 0 a right one, else what is wrong with it, and where.
type outcome struct {
	s    string
	kind api.Errno
	at   int
}

// agree asks for the error itself, and for what errors.Is and errors.As tell of it.
func agree(t *testing.T, c outcome, err error) {
	t.Helper()
	if c.kind == 0 {
		same(t, c.s, err, error(nil))
		return
	}
	var f *api.Fault
	if !errors.As(err, &f) {
		t.Errorf("%q: got %v, want errno %d at %d", c.s, err, c.kind, c.at)
		return
	}
	if f.Kind != c.kind || f.At != c.at || !errors.Is(err, c.kind) {
		t.Errorf("%q: got errno %d at %d, want %d at %d", c.s, f.Kind, f.At, c.kind, c.at)
	}
}

func checkPrint(t *testing.T, c outcome) {
	t.Helper()
	p, err := ident.Print(c.s)
	agree(t, c, err)
	if c.kind != 0 {
		same(t, "the fingerprint beside an error", p, api.Print{})
	}
}

func checkApp(t *testing.T, c outcome) {
	t.Helper()
	a, err := ident.App(c.s)
	agree(t, c, err)
	if c.kind != 0 {
		same(t, "the name beside an error", a, api.AppID{})
	} else {
		same(t, "the name", a, api.AppID{Team: c.s[:10], Bundle: c.s[11:]})
	}
}

func checkPackage(t *testing.T, c outcome) {
	t.Helper()
	agree(t, c, ident.Package(c.s))
}

func checkScheme(t *testing.T, c outcome) {
	t.Helper()
	agree(t, c, ident.Scheme(c.s))
}

// everyByteAt puts every byte at a place of a right text: those of can stay right, the others are wrong there.
func everyByteAt(t *testing.T, check func(*testing.T, outcome), right string, at int, can string) {
	t.Helper()
	for i := range 256 {
		c := outcome{s: right[:at] + everyByte[i:i+1] + right[at+1:]}
		if !strings.Contains(can, everyByte[i:i+1]) {
			c.kind, c.at = api.ErrForm, at
		}
		check(t, c)
	}
}

// cutOff cuts a text at every place ahead of least: it isn't whole there.
func cutOff(t *testing.T, check func(*testing.T, outcome), right string, least int) {
	t.Helper()
	for n := range least {
		check(t, outcome{right[:n], api.ErrShort, n})
	}
}

// tooLong puts bytes behind a text that is as long as may be: none of them is asked whether it can stand there.
func tooLong(t *testing.T, check func(*testing.T, outcome), longest string) {
	t.Helper()
	check(t, outcome{s: longest})
	for _, more := range []string{"a", ".", ":", "0", "!", "\x00", "\xff", "é", "aa", "!!", strings.Repeat("a.", 999)} {
		check(t, outcome{longest + more, api.ErrLong, len(longest)})
	}
}

// P4.1
func TestPrint(t *testing.T) {
	for _, s := range []string{printText, strings.ToLower(printText), strings.Replace(printText, "4D", "4d", 1), strings.Replace(printText, "BB", "bB", 1)} {
		p, err := ident.Print(s)
		same(t, s, p, sample)
		same(t, s, err, error(nil))
	}
	for at := range printText {
		can := hexes
		if at%3 == 2 {
			can = ":"
		}
		everyByteAt(t, checkPrint, printText, at, can)
	}
	cutOff(t, checkPrint, printText, len(printText))
	tooLong(t, checkPrint, printText)
}

// P4.1: the first place counts, whatever is wrong behind it.
func TestPrintErrors(t *testing.T) {
	for _, c := range []outcome{
		{"", api.ErrShort, 0}, {":", api.ErrForm, 0}, {"AB", api.ErrShort, 2}, {"AB:", api.ErrShort, 3}, {"ABC", api.ErrForm, 2}, {"A:", api.ErrForm, 1}, {"AB::", api.ErrForm, 3}, {" AB", api.ErrForm, 0}, {"0x", api.ErrForm, 1}, {"AB-CD", api.ErrForm, 2}, {"AG", api.ErrForm, 1}, {"\xc3\x81", api.ErrForm, 0},
		{strings.ReplaceAll(printText, ":", ""), api.ErrForm, 2}, {printText[:94] + "g", api.ErrForm, 94}, {printText[:94] + "gg", api.ErrForm, 94}, {"g" + printText, api.ErrForm, 0}, {printText[:94] + ":", api.ErrForm, 94}, {printText + ":" + printText, api.ErrLong, 95}, {printText + " ", api.ErrLong, 95}, {"x" + strings.Repeat("y", 9999), api.ErrForm, 0},
	} {
		checkPrint(t, c)
	}
}

// P4.1: the two digits of every byte, at every place.
func TestPrintOfEveryByte(t *testing.T) {
	for i := range 256 {
		for at := range sample {
			p := sample
			p[at] = byte(i)
			two := string("0123456789abcdef"[i/16]) + string("0123456789ABCDEF"[i%16])
			got, err := ident.Print(printText[:3*at] + two + printText[3*at+2:])
			same(t, two, got, p)
			same(t, two, err, error(nil))
		}
	}
}

// P4.2
func TestPrintText(t *testing.T) {
	same(t, "PrintText", ident.PrintText(sample), printText)
	same(t, "PrintText of noughts", ident.PrintText(api.Print{}), "00"+strings.Repeat(":00", 31))
	for i := range 256 {
		for at := range sample {
			p := sample
			p[at] = byte(i)
			two := string("0123456789ABCDEF"[i/16]) + string("0123456789ABCDEF"[i%16])
			text := ident.PrintText(p)
			same(t, "PrintText", text, printText[:3*at]+two+printText[3*at+2:])
			back, err := ident.Print(text)
			same(t, "Print of PrintText", back, p)
			same(t, "its error", err, error(nil))
		}
	}
}

// P4.1, and the chapter's first example.
func TestApp(t *testing.T) {
	a, err := ident.App("ABCDE12345.com.x")
	same(t, "App", a, api.AppID{Team: "ABCDE12345", Bundle: "com.x"})
	same(t, "App's error", err, error(nil))
	for _, s := range []string{team + ".a", "0000000000.0", "ZZZZZZZZZZ.Z", team + "..", team + ".-", team + ".a..b", team + ".-a.", team + "." + team + ".com", team + ".Com.X-1"} {
		checkApp(t, outcome{s: s})
	}
	right := team + ".com.x"
	for at := range right {
		can := letters + digits + "-."
		if at < 10 {
			can = greats + digits
		} else if at == 10 {
			can = "."
		}
		everyByteAt(t, checkApp, right, at, can)
	}
	cutOff(t, checkApp, right, 12)
}

// P4.1: the most of an app's name is the most of its bundle.
func TestLongApp(t *testing.T) {
	longest := team + "." + strings.Repeat("x", 155)
	same(t, "the most of a bundle", api.MaxBundle, 155)
	tooLong(t, checkApp, longest)
	tooLong(t, checkApp, longest[:165]+".")
	checkApp(t, outcome{s: longest[:165]})
	checkApp(t, outcome{longest[:165] + "_", api.ErrForm, 165})
	checkApp(t, outcome{longest[:165] + "_x", api.ErrForm, 165})
}

// P4.1: the first place counts, whatever is wrong behind it.
func TestAppErrors(t *testing.T) {
	for _, c := range []outcome{
		{"", api.ErrShort, 0}, {".", api.ErrForm, 0}, {"ABCDE1234", api.ErrShort, 9}, {team, api.ErrShort, 10}, {team + ".", api.ErrShort, 11}, {"ABCDE1234.a", api.ErrForm, 9}, {team + "6.a", api.ErrForm, 10}, {team + "a", api.ErrForm, 10}, {"abcde12345.a", api.ErrForm, 0}, {"ABCDe12345.a", api.ErrForm, 4}, {"ABCDE-2345.a", api.ErrForm, 5},
		{team + ".a_b", api.ErrForm, 12}, {team + ".a b", api.ErrForm, 12}, {team + ".*", api.ErrForm, 11}, {team + ".é", api.ErrForm, 11}, {" " + team + ".a", api.ErrForm, 0}, {team + ".a ", api.ErrForm, 12}, {"a" + strings.Repeat("b", 999), api.ErrForm, 0}, {team + "!" + strings.Repeat("b", 999), api.ErrForm, 10}, {"com.x", api.ErrForm, 0},
	} {
		checkApp(t, c)
	}
}

// P4.2: a name that is none is given as it stands, too.
func TestAppText(t *testing.T) {
	for want, a := range map[string]api.AppID{team + ".com.x": {Team: team, Bundle: "com.x"}, ".": {}, "a.": {Team: "a"}, ".b": {Bundle: "b"}, "a.b..c.": {Team: "a.b", Bundle: ".c."}, "\xff.é": {Team: "\xff", Bundle: "é"}} {
		same(t, "AppText", ident.AppText(a), want)
	}
	for _, s := range []string{team + ".com.x", team + "..", "0000000000.0"} {
		a, err := ident.App(s)
		same(t, "App's error", err, error(nil))
		same(t, "AppText of App", ident.AppText(a), s)
	}
}

// P4.1, and the chapter's first example.
func TestPackage(t *testing.T) {
	for _, s := range []string{"a.b", "com.x_1.Y", "A.B", "z.Z", "a.b.c.d.e", "a_.b_", "a1.b2", "com.example.app", strings.Repeat("a.", 111) + "a"} {
		checkPackage(t, outcome{s: s})
	}
	for _, c := range []outcome{
		{"com", api.ErrShort, 3}, {"", api.ErrShort, 0}, {"a", api.ErrShort, 1}, {"a.", api.ErrShort, 2}, {"a.b.", api.ErrShort, 4}, {"a1_", api.ErrShort, 3}, {".", api.ErrForm, 0}, {".a", api.ErrForm, 0}, {"a..b", api.ErrForm, 2}, {"a.b..", api.ErrForm, 4}, {"a.1", api.ErrForm, 2}, {"1.a", api.ErrForm, 0}, {"_.a", api.ErrForm, 0}, {"a._b", api.ErrForm, 2},
		{"a.b-c", api.ErrForm, 3}, {"a-b", api.ErrForm, 1}, {"a b", api.ErrForm, 1}, {"a.b ", api.ErrForm, 3}, {"a.é", api.ErrForm, 2}, {"a\x00.b", api.ErrForm, 1}, {"a.\xff", api.ErrForm, 2}, {"a.b.c/", api.ErrForm, 5}, {"1" + strings.Repeat("a", 999), api.ErrForm, 0},
	} {
		checkPackage(t, c)
	}
}

// P4.1: of every byte it is known whether a part begins with it, and whether it stands within one.
func TestPackageOfEveryByte(t *testing.T) {
	within := letters + digits + "_."
	for at, can := range map[int]string{0: letters, 1: within, 3: within, 4: letters, 5: within, 7: within, 8: letters} {
		everyByteAt(t, checkPackage, "aaa.aaa.aaa", at, can)
	}
	for i := range 256 {
		c := outcome{s: "aa.a" + everyByte[i:i+1]}
		if c.s[4] == '.' {
			c.kind, c.at = api.ErrShort, 5
		} else if !strings.Contains(within, c.s[4:]) {
			c.kind, c.at = api.ErrForm, 4
		}
		checkPackage(t, c)
	}
	cutOff(t, checkPackage, "ab1_.c", len("ab1_.c"))
}

// P4.1
func TestLongPackage(t *testing.T) {
	same(t, "the most of a package's name", api.MaxPackage, 223)
	tooLong(t, checkPackage, "a."+strings.Repeat("b", 221))
	tooLong(t, checkPackage, strings.Repeat("a.", 111)+"a")
	for s, c := range map[string]outcome{
		strings.Repeat("a", 223):              {kind: api.ErrShort, at: 223},
		strings.Repeat("a", 222) + ".":        {kind: api.ErrShort, at: 223},
		strings.Repeat("a", 222) + ".a":       {kind: api.ErrLong, at: 223},
		strings.Repeat("a", 223) + ".a":       {kind: api.ErrLong, at: 223},
		strings.Repeat("a", 222) + "-":        {kind: api.ErrForm, at: 222},
		strings.Repeat("a", 222) + "-a":       {kind: api.ErrForm, at: 222},
		strings.Repeat("a", 221) + ".1":       {kind: api.ErrForm, at: 222},
		strings.Repeat("a", 221) + ".b":       {},
		"a." + strings.Repeat("b", 220) + "!": {kind: api.ErrForm, at: 222},
		"-" + strings.Repeat("a.", 222):       {kind: api.ErrForm},
	} {
		c.s = s
		checkPackage(t, c)
	}
}

// P4.1
func TestScheme(t *testing.T) {
	for _, s := range []string{"a", "Z", "http", "a+b-c.d1", "a.", "a-", "a+", "a1", "A..--++99", strings.Repeat("a", 63)} {
		checkScheme(t, outcome{s: s})
	}
	everyByteAt(t, checkScheme, "abc", 0, letters)
	everyByteAt(t, checkScheme, "abc", 1, letters+digits+"+-.")
	everyByteAt(t, checkScheme, "abc", 2, letters+digits+"+-.")
	tooLong(t, checkScheme, strings.Repeat("a", 64))
	tooLong(t, checkScheme, "a"+strings.Repeat(".", 63))
	for _, c := range []outcome{
		{"", api.ErrShort, 0}, {"1a", api.ErrForm, 0}, {"+a", api.ErrForm, 0}, {"a:", api.ErrForm, 1}, {"http://x", api.ErrForm, 4}, {"a_b", api.ErrForm, 1}, {"a b", api.ErrForm, 1}, {"é", api.ErrForm, 0}, {"aé", api.ErrForm, 1}, {"a\x00", api.ErrForm, 1},
		{strings.Repeat("a", 63) + ":", api.ErrForm, 63}, {strings.Repeat("a", 63) + "::", api.ErrForm, 63}, {"1" + strings.Repeat("a", 999), api.ErrForm, 0},
	} {
		checkScheme(t, c)
	}
}

// P4.3: the first byte counts ahead of the others, the last one too; bytes from 0x80 on are greater than those below.
func TestPrints(t *testing.T) {
	last := func(c byte) api.Print { return api.Print{31: c} }
	for _, c := range []struct{ list, want []api.Print }{
		{nil, nil}, {[]api.Print{{}}, []api.Print{{}}}, {[]api.Print{{}, {}}, []api.Print{{}}}, {[]api.Print{{1}, {1}, {1}}, []api.Print{{1}}},
		{[]api.Print{{2}, {1}, {2}, {1, 5}}, []api.Print{{1}, {1, 5}, {2}}}, {[]api.Print{{1}, {2}}, []api.Print{{1}, {2}}}, {[]api.Print{{2}, {1}}, []api.Print{{1}, {2}}}, {[]api.Print{{1}, {2}, {1}, {2}}, []api.Print{{1}, {2}}},
		{[]api.Print{last(2), {1}, last(1), last(2), {}}, []api.Print{{}, last(1), last(2), {1}}}, {[]api.Print{{0xff}, {0x80}, {0x7f}, {0}}, []api.Print{{0}, {0x7f}, {0x80}, {0xff}}}, {[]api.Print{{1, 0, 9}, {0, 9}, {1, 1}}, []api.Print{{0, 9}, {1, 0, 9}, {1, 1}}},
	} {
		got := ident.Prints(c.list)
		if !slices.Equal(got, c.want) {
			t.Errorf("%x: got %x, want %x", c.list, got, c.want)
		}
	}
	if got := ident.Prints([]api.Print{}); len(got) != 0 {
		t.Errorf("Prints of nothing: %x", got)
	}
}

// P4.3: of many fingerprints, backwards and thrice each.
func TestManyPrints(t *testing.T) {
	var list, want []api.Print
	for i := range 3000 {
		n := (2999 - i) % 1000
		list = append(list, api.Print{5: byte(n >> 8), 20: byte(n)})
	}
	for n := range 1000 {
		want = append(want, api.Print{5: byte(n >> 8), 20: byte(n)})
	}
	if got := ident.Prints(list); !slices.Equal(got, want) {
		t.Errorf("got %d, want %d", len(got), len(want))
	}
}

// P4.3: the list needn't be in order.
func TestHas(t *testing.T) {
	list := []api.Print{{9}, {1}, {5}, {1}, {31: 7}}
	for _, p := range list {
		same(t, "Has of one that is there", ident.Has(list, p), true)
	}
	for _, p := range []api.Print{{}, {2}, {9, 1}, {9, 31: 1}, {30: 7}, {31: 8}} {
		same(t, "Has of one that isn't there", ident.Has(list, p), false)
	}
	same(t, "Has of the room behind the list", ident.Has(list[:2], api.Print{5}), false)
	same(t, "Has of nothing", ident.Has(nil, api.Print{}), false)
	same(t, "Has of nothing", ident.Has([]api.Print{}, api.Print{}), false)
	same(t, "Has of noughts", ident.Has([]api.Print{{}}, api.Print{}), true)
}

// P4.4: neither what is handed in nor its spare room is written to, nor kept; answers are by themselves, their spare room too.
func TestListsAreNew(t *testing.T) {
	for _, list := range [][]api.Print{{{1}, {2}, {3}, {9}, {8}}, {{3}, {1}, {3}, {9}, {8}}, {{1}, {1}, {1}, {9}, {8}}} {
		before := slices.Clone(list)
		first, second := ident.Prints(list[:3]), ident.Prints(list[:3])
		ident.Has(list[:3], api.Print{2})
		same(t, "the list", list, before)
		want := slices.Clone(second)
		clear(first[:cap(first)])
		same(t, "the list, when an answer is written over", list, before)
		same(t, "an answer, when another one is written over", second, want)
		clear(list)
		same(t, "an answer, when the list is written over", second, want)
	}
}

// share tells whether two texts lie in one memory.
func share(a, b string) bool {
	if a == "" || b == "" {
		return false
	}
	from := func(s string) uintptr { return uintptr(unsafe.Pointer(unsafe.StringData(s))) }
	return from(a) < from(b)+uintptr(len(b)) && from(b) < from(a)+uintptr(len(a))
}

// P4.4
func TestTextsAreNew(t *testing.T) {
	s := team + ".com.x"
	a, _ := ident.App(s)
	b, _ := ident.App(s)
	for _, pair := range [][2]string{{a.Team, s}, {a.Bundle, s}, {a.Team, a.Bundle}, {a.Team, b.Team}, {a.Bundle, b.Bundle}} {
		if share(pair[0], pair[1]) {
			t.Errorf("%q and %q lie in one memory", pair[0], pair[1])
		}
	}
	if text := ident.AppText(a); share(text, a.Team) || share(text, a.Bundle) {
		t.Error("AppText lies in the name")
	}
	errA, errB := ident.Scheme("a:"), ident.Scheme("a:")
	errA.(*api.Fault).At = 9
	agree(t, outcome{"a:", api.ErrForm, 1}, errB)
}

// P1 and P2: all calls end, none panics, and a second run answers what the first one did.
func TestAnyArguments(t *testing.T) {
	texts := []string{"", ".", ":", "%", "a", "é", everyByte, printText, team, team + ".com.x", "com.x", strings.Repeat("a.", 999), strings.Repeat("A", 999), strings.Repeat(printText, 99), strings.Repeat("\xff", 95)}
	lists := [][]api.Print{nil, {}, {{}}, {{}, {}}, {{2}, {1}, {2}}, make([]api.Print, 999), {sample, {1}, sample}}
	run := func() []any {
		var all []any
		keep := func(answers ...any) { all = append(all, answers...) }
		for _, s := range texts {
			p, errP := ident.Print(s)
			a, errA := ident.App(s)
			keep(p, errP, a, errA, ident.PrintText(p), ident.AppText(a), ident.Package(s), ident.Scheme(s))
			for _, other := range texts {
				keep(ident.AppText(api.AppID{Team: s, Bundle: other}))
			}
		}
		for _, list := range lists {
			keep(ident.Prints(list), ident.Has(list, sample), ident.Has(list, api.Print{}))
		}
		return all
	}
	same(t, "the second run", run(), run())
}
