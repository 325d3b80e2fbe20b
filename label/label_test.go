package label_test

import (
	"errors"
	"math"
	"math/rand"
	"reflect"
	"strconv"
	"strings"
	"testing"
	"unicode/utf8"
	"unsafe"

	"waybill/api"
	"waybill/label"
	"waybill/puny"
)

const plain = "abcdefghijklmnopqrstuvwxyz0123456789-"

func same(t *testing.T, what string, got, want any) {
	t.Helper()
	if !reflect.DeepEqual(got, want) {
		t.Errorf("%q: got %#v, want %#v", what, got, want)
	}
}

// wrong asks for the error itself, and for what errors.Is and errors.As tell of it.
func wrong(t *testing.T, what string, err error, kind api.Errno, at int) {
	t.Helper()
	var f *api.Fault
	if !errors.As(err, &f) {
		t.Errorf("%q: got %v, want errno %d at %d", what, err, kind, at)
		return
	}
	if f.Kind != kind || f.At != at || !errors.Is(err, kind) {
		t.Errorf("%q: got errno %d at %d, want %d at %d", what, f.Kind, f.At, kind, at)
	}
}

// code is a text as Encode gives it, whether a label may have it or not.
func code(t *testing.T, s string) string {
	t.Helper()
	var chars []int
	for _, r := range s {
		chars = append(chars, int(r))
	}
	text, err := puny.Encode(chars)
	if err != nil {
		t.Fatal(err)
	}
	return "xn--" + text
}

// gives asks for a call's answer, beside no error.
func gives(t *testing.T, what, got string, err error, want string) {
	t.Helper()
	same(t, what, got, want)
	same(t, "the error of "+what, err, error(nil))
}

// refuses asks for a call's error, and for nothing beside it.
func refuses(t *testing.T, what, got string, err error, kind api.Errno, at int) {
	t.Helper()
	wrong(t, what, err, kind, at)
	same(t, what+" beside an error", got, "")
}

// right asks Right, and Shown for what the label is shown as.
func right(t *testing.T, s, shown string) {
	t.Helper()
	same(t, "Right of "+s, label.Right(s), error(nil))
	got, err := label.Shown(s)
	gives(t, "Shown of "+s, got, err, shown)
	ascii(t, shown, s)
}

func notRight(t *testing.T, s string, kind api.Errno, at int) {
	t.Helper()
	wrong(t, "Right of "+s, label.Right(s), kind, at)
	got, err := label.Shown(s)
	refuses(t, "Shown of "+s, got, err, kind, at)
}

func ascii(t *testing.T, s, want string) {
	t.Helper()
	got, err := label.ASCII(s)
	gives(t, "ASCII of "+s, got, err, want)
}

func noASCII(t *testing.T, s string, kind api.Errno, at int) {
	t.Helper()
	got, err := label.ASCII(s)
	refuses(t, "ASCII of "+s, got, err, kind, at)
}

// name asks for a name's canonical form, and that this is its own.
func name(t *testing.T, s, want string) {
	t.Helper()
	got, err := label.Name(s)
	gives(t, "Name of "+s, got, err, want)
	again, err := label.Name(want)
	gives(t, "Name of "+want, again, err, want)
}

func noName(t *testing.T, s string, kind api.Errno, at int) {
	t.Helper()
	got, err := label.Name(s)
	refuses(t, "Name of "+s, got, err, kind, at)
}

// mayStand is the chapter's rule for characters above 127, in its own words.
func mayStand(c int) bool {
	switch {
	case c >= 0xdf && c <= 0x2fff:
		return c != 0xf7 && !(c >= 0x2000 && c <= 0x2bff)
	case c >= 0x3005 && c <= 0xd7ff:
		return true
	case c >= 0xf900 && c <= 0xfdff:
		return !(c >= 0xfdd0 && c <= 0xfdef)
	case c >= 0x10000 && c <= 0x3ffff:
		return c%0x10000 < 0xfffe
	default:
		return false
	}
}

// P10.1
func TestChar(t *testing.T) {
	for c := -0x1000; c <= 0x120000; c++ {
		if label.Char(c) != mayStand(c) {
			t.Fatalf("%#x: got %v", c, label.Char(c))
		}
	}
	for _, c := range []int{math.MinInt, math.MinInt + 0xfc, -1 << 32, 1<<32 + 0xfc, math.MaxInt} {
		same(t, "Char", label.Char(c), false)
	}
}

// P10.1, P10.3, and the chapter's first example.
func TestRight(t *testing.T) {
	for _, s := range []string{
		"a", "0", "a-b9", "9-a", "a--b", "a-b-c", "a-b--c", "abc--d", "a--b--c", "aab--c", "abcd", "0--0", "a-b", "ab-c", "xn", "xn-a", "xna--b", "x--n", "axn--tda", plain[:36], strings.Repeat("a", 63),
	} {
		right(t, s, s)
	}
	for _, s := range []string{"-", "--", "---", "----", "-a", "a-", "a--", "-a-", "ab--c", "ab--", "ab---c", "a---b", "xm--tda", "yn--tda", "00--0", "----a", "a---", strings.Repeat("a", 62) + "-", "-" + strings.Repeat("a", 62)} {
		notRight(t, s, api.ErrLabel, 0)
	}
}

// P10.1: in the promise's order.
func TestRightOrder(t *testing.T) {
	notRight(t, "", api.ErrShort, 0)
	for _, s := range []string{strings.Repeat("a", 64), strings.Repeat("-", 64), strings.Repeat("A", 64), strings.Repeat("\xff", 999), "xn--" + strings.Repeat("a", 60), code(t, strings.Repeat("a", 56)+"ü")} {
		notRight(t, s, api.ErrLong, 63)
	}
	for s, at := range map[string]int{"A": 0, "-A": 1, "a_b": 1, "a.b": 1, "a.": 1, ".": 0, "-_": 1, "ab--C": 4, "xn--TDA": 4, "Xn--tda": 0, "xn--tdA": 6, "xn--!": 4, "ü": 0, "aü": 1, "\xff": 0, "a b": 1, "a\x00": 1, strings.Repeat("a", 62) + "_": 62, "-" + strings.Repeat("a", 61) + "\x7f": 62, "a:B": 1} {
		notRight(t, s, api.ErrForm, at)
	}
}

// P10.1: of every byte it is known whether it may stand in a label, and where.
func TestRightOfEveryByte(t *testing.T) {
	for i := range 256 {
		c := string([]byte{byte(i)})
		if !strings.Contains(plain, c) {
			notRight(t, c, api.ErrForm, 0)
			notRight(t, "a"+c+"a", api.ErrForm, 1)
			notRight(t, "xn--td"+c, api.ErrForm, 6)
			continue
		}
		right(t, "a"+c+"a", "a"+c+"a")
		if c == "-" {
			notRight(t, c, api.ErrLabel, 0)
		} else {
			right(t, c, c)
			right(t, c+"-"+c, c+"-"+c)
			notRight(t, c+c+"--"+c, api.ErrLabel, 0)
		}
	}
}

// P10.1 and P10.3: labels that are coded.
func TestRightOfCodes(t *testing.T) {
	for s, shown := range map[string]string{"xn--tda": "ü", "xn--bcher-kva": "bücher", "xn--ihqwcrb4cv8a8dqg056pqjye": "他们为什么不说中文"} {
		right(t, s, shown)
	}
	for _, s := range []string{"ü", "aü", "üa", "ß", "a-ü", "ü-a", "a--ü", "ü--a", "ab-ü", "a-b--ü", "abc--ü", "ü0", "üü", "9ü9", "\u1fff", "\u2c00", "\u3005", "\ud7ff", "\uf900", "\U00010000", "\U0003fffd", "xnü", "xn-ü", "ü-xn--a"} {
		right(t, code(t, s), s)
	}
	for _, s := range []string{
		"", "a", "ab", "a-b", // no character above 127
		"-ü", "ü-", "-ü-", "-", "üü-", "ab--ü", "üü--ü", "xn--ü", "ab--ü-", "-a--ü", // a dash where none may be
		"Aü", "üZ", "a.ü", "a_ü", "a ü", "\x00ü", "ü\x7f", // one below 128 that may not stand there
		"\u0080", "\u00a0", "Ü", "\u00de", "÷", "ü÷", "a\u2000", "\u2028ü", "\u2bff", "\u3000", "\u3004", "\ue000", "\uf8ff", "\ufdd0", "\ufdef", "\ufe00", "\ufeff", "\uffff", "\U0001fffe", "\U0003ffff", "\U00040000", "\U0010ffff", // one above 127
	} {
		if form := code(t, s); strings.ContainsAny(form, "ABCDEFGHIJKLMNOPQRSTUVWXYZ._ \x00\x7f") {
			wrong(t, "Right of "+form, label.Right(form), api.ErrForm, strings.IndexAny(form, "ABCDEFGHIJKLMNOPQRSTUVWXYZ._ \x00\x7f"))
		} else {
			notRight(t, form, api.ErrLabel, 0)
		}
	}
	for _, s := range []string{"xn--", "xn--a", "xn--a-", "xn--a-b", "xn---", "xn----", "xn---tda", "xn----tda", "xn--9", "xn--td", "xn--99999999", "xn--tda-", "xn--bcher-kv", "xn--0", "xn--a-9", "xn--xn--tda"} {
		notRight(t, s, api.ErrLabel, 0)
	}
}

// P10.1: a code of every character alone.
func TestRightOfEveryCharacter(t *testing.T) {
	for c := 128; c <= 0x10ffff; c++ {
		if c >= 0xd800 && c <= 0xdfff {
			continue
		}
		s, _ := puny.Encode([]int{c})
		shown, err := label.Shown("xn--" + s)
		if mayStand(c) && (shown != string(rune(c)) || err != nil) || !mayStand(c) && (shown != "" || !errors.Is(err, api.ErrLabel)) {
			t.Fatalf("%#x: %q, %v", c, shown, err)
		}
	}
}

// P10.1 and P10.3: whatever is a label, ASCII of what it is shown as is it again, and a code is what Encode gives.
func TestASCIIOfShown(t *testing.T) {
	source := rand.New(rand.NewSource(1))
	found := 0
	for range 200000 {
		b := make([]byte, 1+source.Intn(9))
		for i := range b {
			b[i] = plain[source.Intn(len(plain))]
		}
		s := "xn--" + string(b)
		if source.Intn(4) == 0 {
			s = string(b)
		}
		shown, err := label.Shown(s)
		same(t, "Right of "+s, label.Right(s), err)
		if err != nil {
			noASCII(t, strings.ToUpper(s), api.ErrLabel, 0)
			continue
		}
		ascii(t, shown, s)
		if shown != s {
			found++
			same(t, "the code of "+shown, code(t, shown), s)
		}
	}
	if found < 1000 {
		t.Errorf("only %d codes were met", found)
	}
}

// P10.1 and P10.2: the longest labels.
func TestLongest(t *testing.T) {
	for _, c := range []string{"a", "-b", "ü", "他", "\U00010400"} {
		s := "ü"
		for len(code(t, s+c)) <= 63 {
			s += c
			right(t, code(t, s), s)
		}
		noASCII(t, s+c, api.ErrLong, 63)
		notRight(t, code(t, s+c), api.ErrLong, 63)
	}
	most := strings.Repeat("a", 55) + "ü"
	same(t, "the size of the longest code", len(code(t, most)), 63)
	right(t, code(t, most), most)
	noASCII(t, "a"+most, api.ErrLong, 63)
	for _, n := range []int{64, 70, 255, 256, 257, 300, 5000} {
		noASCII(t, strings.Repeat("ü", n), api.ErrLong, 63)
		noASCII(t, strings.Repeat("a", n)+"ü", api.ErrLong, 63)
		noASCII(t, strings.Repeat("a", n), api.ErrLong, 63)
	}
}

// P10.2: labels without characters above 127.
func TestASCIIOfASCII(t *testing.T) {
	for s, want := range map[string]string{"a": "a", "ABC": "abc", "aBc-9Z": "abc-9z", "xn--TDA": "xn--tda", "XN--tda": "xn--tda", "Xn--Bcher-KVA": "xn--bcher-kva", "A--B": "a--b", "0": "0", strings.Repeat("Z", 63): strings.Repeat("z", 63)} {
		ascii(t, s, want)
	}
	noASCII(t, "", api.ErrShort, 0)
	noASCII(t, strings.Repeat("_", 64), api.ErrLong, 63)
	for s, at := range map[string]int{"a_B": 1, "-A.": 2, "@": 0, "[": 0, "`": 0, "{": 0, "A B": 1, "a\x7f": 1, "AB\x00": 2, "a\u007fb-": 1} {
		noASCII(t, s, api.ErrForm, at)
	}
	for _, s := range []string{"-A", "A-", "AB--C", "-", "XN--A", "XN--", "xn--A-", "XM--TDA"} {
		noASCII(t, s, api.ErrLabel, 0)
	}
}

// P10.2: labels with characters above 127; letters beyond ASCII stay as they are.
func TestASCIIOfOthers(t *testing.T) {
	for s, want := range map[string]string{"Bücher": "xn--bcher-kva", "BüCHER": "xn--bcher-kva", "ü": "xn--tda", "他们为什么不说中文": "xn--ihqwcrb4cv8a8dqg056pqjye"} {
		ascii(t, s, want)
	}
	for _, s := range []string{"Ā", "Ωmega", "я", "Я", "İ", "ⱥ", "A-ü", "ABC--ü", "A-B--ü"} {
		small := strings.Map(func(r rune) rune {
			if r >= 'A' && r <= 'Z' {
				return r + 32
			}
			return r
		}, s)
		right(t, code(t, small), small)
		ascii(t, s, code(t, small))
	}
}

// P10.2: each error ahead of the ones behind it, at its place.
func TestASCIIErrors(t *testing.T) {
	for s, at := range map[string]int{"\xff": 0, "a\xff": 1, "_\xff": 1, "ü_\xff": 3, "-ü\xc0\x80": 3, "ü\xed\xa0\x80": 2, strings.Repeat("ü", 70) + "\xe2\x82": 140, "\u2028\xff": 3, strings.Repeat("a", 64) + "\x80": 64, "他\xf0\x9f": 3} {
		noASCII(t, s, api.ErrUTF, at)
	}
	for s, at := range map[string]int{
		"ü b": 2, "ü\u2028": 2, "_ü": 0, "a.ü": 1, "ü.": 2, "-ü_": 3, "ab--ü_": 6, "Ü": 0, "aÜb": 1, "÷": 0, "ü÷": 2, "他\u3000": 3, "\U00010400\U0001ffff": 4, "\u0080": 0, "é\x7f": 2, "é\x00": 2, "\ufffd": 0, "-\u00a0": 1, "\ue000": 0, "\U00040000": 0,
		strings.Repeat("ü", 70) + "_": 140, strings.Repeat("a", 300) + "Ü": 300, "@ü": 0, "[ü": 0, "`ü": 0, "{ü": 0, "ü/": 2, "ü:": 2,
	} {
		noASCII(t, s, api.ErrForm, at)
	}
	for _, s := range []string{"-ü", "ü-", "-ü-", "ab--ü", "xn--ü", "XN--ü", "üü--", "üü--ü", "他们--a", "-" + strings.Repeat("ü", 70), strings.Repeat("ü", 300) + "-", "ab--" + strings.Repeat("ü", 300)} {
		noASCII(t, s, api.ErrLabel, 0)
	}
}

// P10.2: of every character, beside others.
func TestASCIIOfEveryCharacter(t *testing.T) {
	for c := rune(0); c <= 0x10ffff; c++ {
		if !utf8.ValidRune(c) {
			continue
		}
		s := "ü" + string(c) + "a"
		got, err := label.ASCII(s)
		small := string(c)
		if c < 128 {
			small = strings.ToLower(small)
		}
		if c < 128 && strings.Contains(plain, small) || mayStand(int(c)) {
			if got != code(t, "ü"+small+"a") || err != nil {
				t.Fatalf("%q: %q, %v", s, got, err)
			}
		} else if got != "" || !errors.Is(err, api.ErrForm) {
			t.Fatalf("%q: %q, %v", s, got, err)
		}
	}
}

// P10.4, and the chapter's first example.
func TestName(t *testing.T) {
	for s, want := range map[string]string{
		"a": "a", "a.": "a", "Example.Com": "example.com", "Bücher.Example.": "xn--bcher-kva.example", "XN--BCHER-KVA.example": "xn--bcher-kva.example", "ü.ü.": "xn--tda.xn--tda", "1.2.3.4": "1.2.3.4", "a-b.c--d": "a-b.c--d", "A.b.C.d": "a.b.c.d",
	} {
		name(t, s, want)
	}
	noName(t, "", api.ErrShort, 0)
	for s, at := range map[string]int{".": 0, "..": 0, ".a": 0, "a..": 2, "a..b": 2, "...": 0, "ab.c..d": 5, "ü..a": 3, ".a.": 0} {
		noName(t, s, api.ErrShort, at)
	}
}

// P10.4: an error of a label is told where it stands in the whole, of the first label that has one.
func TestNameErrors(t *testing.T) {
	for _, c := range []struct {
		s    string
		kind api.Errno
		at   int
	}{
		{"a.b_c", api.ErrForm, 3}, {"_", api.ErrForm, 0}, {"ü.a_b", api.ErrForm, 4}, {"a.ü_", api.ErrForm, 4}, {"a_b.\xff", api.ErrForm, 1}, {"aa.bb.Ü.", api.ErrForm, 6}, {"a b.c", api.ErrForm, 1}, {"a.b:80", api.ErrForm, 3},
		{"a.-b", api.ErrLabel, 2}, {"-b", api.ErrLabel, 0}, {"a.ab--c.d", api.ErrLabel, 2}, {"ü.xn--a.b", api.ErrLabel, 3}, {"a.-ü", api.ErrLabel, 2}, {"a-.b_", api.ErrLabel, 0}, {"bücher.a-.b", api.ErrLabel, 8},
		{"a.b\xff", api.ErrUTF, 3}, {"\xff.a", api.ErrUTF, 0}, {"ü.\xc3.a", api.ErrUTF, 3}, {"ü.-.\xff", api.ErrLabel, 3},
		{strings.Repeat("a", 64), api.ErrLong, 63}, {"ab." + strings.Repeat("a", 64) + ".c", api.ErrLong, 66}, {"ü." + strings.Repeat("ü", 70), api.ErrLong, 66}, {strings.Repeat("a", 64) + "._", api.ErrLong, 63}, {"a." + strings.Repeat("b", 300), api.ErrLong, 65},
	} {
		noName(t, c.s, c.kind, c.at)
	}
}

// P10.4: how many labels there may be, ahead of what is wrong with them.
func TestNameMany(t *testing.T) {
	most := strings.Repeat("a.", 126) + "a"
	name(t, most, most)
	name(t, most+".", most)
	noName(t, most+"..", api.ErrMany, 253)
	noName(t, most+".a", api.ErrMany, 253)
	noName(t, most+".a.", api.ErrMany, 253)
	noName(t, "_"+most[1:]+".a", api.ErrMany, 253)
	noName(t, strings.Repeat(".", 127), api.ErrShort, 0)
	noName(t, strings.Repeat(".", 128), api.ErrMany, 126)
	noName(t, strings.Repeat("ü.", 127)+"a", api.ErrMany, 380)
	noName(t, strings.Repeat("\xff.", 5000), api.ErrMany, 253)
}

// P10.4: how long a name may be, in its form of ASCII, behind what is wrong with its labels.
func TestNameLong(t *testing.T) {
	part := strings.Repeat("a", 63) + "."
	most := part + part + part + strings.Repeat("b", 61)
	same(t, "the size of the longest name", len(most), 253)
	name(t, most, most)
	name(t, strings.ToUpper(most)+".", most)
	noName(t, most+"b", api.ErrLong, 253)
	noName(t, most+"b.", api.ErrLong, 253)
	noName(t, part+part+part+"b_", api.ErrForm, 193)
	noName(t, part+part+part+part+"-", api.ErrLabel, 256)
	noName(t, part+part+part+part+"a", api.ErrLong, 253)
	// 31 labels of two bytes, with points, become 31 of seven.
	name(t, strings.Repeat("ü.", 31)+"a2345", strings.Repeat("xn--tda.", 31)+"a2345")
	noName(t, strings.Repeat("ü.", 31)+"a23456", api.ErrLong, 253)
	// More than 253 bytes become fewer.
	wide := strings.Repeat("他", 40) + "."
	short, err := label.Name(wide + wide + wide)
	if err != nil || len(wide+wide+wide) < 254 || len(short) > 253 {
		t.Errorf("%q, %v", short, err)
	}
}

// P10.4
func TestLabels(t *testing.T) {
	for s, want := range map[string][]string{
		"": {""}, ".": {"", ""}, "a": {"a"}, "a.b": {"a", "b"}, "a.": {"a", ""}, ".a": {"", "a"}, "a..b": {"a", "", "b"}, "xn--tda.example.com": {"xn--tda", "example", "com"}, "A_ü.\xff": {"A_ü", "\xff"}, "a。b": {"a。b"},
	} {
		same(t, "Labels of "+s, label.Labels(s), want)
	}
	same(t, "how many labels there are", len(label.Labels(strings.Repeat(".", 9999))), 10000)
}

// P10.4
func TestBeneath(t *testing.T) {
	for _, c := range []struct {
		name, above string
		want        bool
	}{
		{"a.example.com", "example.com", true}, {"a.b.example.com", "example.com", true}, {"a.b", "b", true}, {"..b", "b", true}, {"ü.b", "b", true},
		{"example.com", "example.com", false}, {".com", "com", false}, {"axample.com", "xample.com", false}, {"a.Com", "com", false}, {"a.com", "Com", false}, {"com", "a.com", false}, {"a.com.", "com", false}, {"a.com", "co", false}, {"a.com", "om", false},
		{"", "", false}, {".", "", false}, {"a.", "", true}, {"a", "", false}, {"..", "", true}, {"", "a", false}, {"a", "a", false}, {"a.b", ".b", false}, {"a..b", ".b", true}, {"a.b.", "b.", true},
	} {
		if got := label.Beneath(c.name, c.above); got != c.want {
			t.Errorf("%q, %q: got %v", c.name, c.above, got)
		}
	}
}

// share tells whether two texts lie in one memory.
func share(a, b string) bool {
	if a == "" || b == "" {
		return false
	}
	from := func(s string) uintptr { return uintptr(unsafe.Pointer(unsafe.StringData(s))) }
	return from(a) < from(b)+uintptr(len(b)) && from(b) < from(a)+uintptr(len(a))
}

// P10.5
func TestAnswersAreNew(t *testing.T) {
	for _, in := range []string{"abc", "ab.cd.ef", "xn--tda", "xn--bcher-kva"} {
		s := strings.Clone(in)
		ascii, _ := label.ASCII(s)
		shown, _ := label.Shown(s)
		name, _ := label.Name(s)
		again, _ := label.Name(s)
		if share(s, ascii) || share(s, shown) || share(s, name) || share(ascii, shown) || share(name, again) {
			t.Errorf("of %q an answer is shared", s)
		}
		listA, listB := label.Labels(s), label.Labels(s)
		for i, part := range listA {
			if share(part, s) || share(part, listB[i]) {
				t.Errorf("of %q the label %d is shared", s, i)
			}
		}
		want := append([]string{}, listB...)
		clear(listA[:cap(listA)])
		same(t, "a list, when another one is written over", listB, want)
	}
	_, errA := label.Name("a._")
	_, errB := label.Name("a._")
	errA.(*api.Fault).At = 9
	wrong(t, "Name", errB, api.ErrForm, 2)
	errA, errB = label.Right("-"), label.Right("-")
	errA.(*api.Fault).At = 9
	wrong(t, "Right", errB, api.ErrLabel, 0)
}

// P1 and P2: all calls end, none panics, and a second run answers what the first one did.
func TestAnyArguments(t *testing.T) {
	texts := []string{"", ".", "-", "xn--", "xn--\xff", "\xff", strings.Repeat("-", 63), strings.Repeat("xn--", 99), strings.Repeat("é", 99999), strings.Repeat("é.", 99999), strings.Repeat("a", 99999), strings.Repeat("\xe2\x82", 99)}
	for i := range 256 {
		texts = append(texts, string([]byte{byte(i)}), "xn--a"+string([]byte{byte(i)}), strconv.Itoa(i))
	}
	run := func() []any {
		var all []any
		keep := func(answers ...any) { all = append(all, answers...) }
		for i, s := range texts {
			ascii, errA := label.ASCII(s)
			shown, errS := label.Shown(s)
			name, errN := label.Name(s)
			keep(label.Right(s), ascii, errA, shown, errS, name, errN, len(label.Labels(s)), label.Beneath(s, texts[len(texts)-1-i]), label.Char(i))
		}
		return all
	}
	same(t, "the second run", run(), run())
}
