package fold_test

import (
	"errors"
	"math"
	"reflect"
	"strconv"
	"strings"
	"testing"
	"unsafe"

	"waybill/api"
	"waybill/fold"
)

// everyByte is a text that has each byte once.
var everyByte = func() string {
	b := make([]byte, 256)
	for i := range b {
		b[i] = byte(i)
	}
	return string(b)
}()

const greatest = math.MaxUint64

func same(t *testing.T, what string, got, want any) {
	t.Helper()
	if !reflect.DeepEqual(got, want) {
		t.Errorf("%s: got %#v, want %#v", what, got, want)
	}
}

// wrong asks for the error itself, and for what errors.Is and errors.As tell of it.
func wrong(t *testing.T, what string, err error, kind api.Errno, at int) {
	t.Helper()
	var f *api.Fault
	if !errors.As(err, &f) {
		t.Errorf("%s: got %v, want errno %d at %d", what, err, kind, at)
		return
	}
	if f.Kind != kind || f.At != at || !errors.Is(err, kind) || f.Inner != nil {
		t.Errorf("%s: got errno %d at %d, want %d at %d", what, f.Kind, f.At, kind, at)
	}
}

// P2.1: letters are those of ASCII alone, and bytes that are no characters stay, too.
func TestLower(t *testing.T) {
	want := []byte(everyByte)
	for i := 'A'; i <= 'Z'; i++ {
		want[i] = byte(i) + 32
	}
	same(t, "Lower of every byte", fold.Lower(everyByte), string(want))
	for s, want := range map[string]string{"": "", "abc": "abc", "AZ@[`{": "az@[`{", "ÀÉ\u212a\u0130": "ÀÉ\u212a\u0130", "A\xc3B\xff": "a\xc3b\xff"} {
		same(t, "Lower", fold.Lower(s), want)
	}
}

// P2.1
func TestSame(t *testing.T) {
	for _, c := range []struct {
		a, b string
		want bool
	}{
		{"", "", true}, {"", "a", false}, {"aBc", "AbC", true}, {"abc", "abd", false}, {"ab", "abc", false}, {"abc", "ab", false},
		{"@", "`", false}, {"[", "{", false}, {"É", "é", false}, {"k", "\u212a", false}, {"\xff", "\xff", true}, {"\xff", "\xfe", false}, {"\xff", "\ufffd", false},
	} {
		same(t, c.a+" and "+c.b, fold.Same(c.a, c.b), c.want)
		same(t, c.b+" and "+c.a, fold.Same(c.b, c.a), c.want)
	}
}

// P2.1: of every byte it is known whether it is a blank.
func TestTrim(t *testing.T) {
	for i := range 256 {
		c := everyByte[i : i+1]
		want := c + "x" + c
		if strings.Contains(" \t\n\r", c) {
			want = "x"
		}
		same(t, "Trim around "+strconv.Itoa(i), fold.Trim(c+"x"+c), want)
	}
	for s, want := range map[string]string{
		"": "", " ": "", " \t\r\n": "", "a": "a", " \t\n\ra b\t c\r\n \t": "a b\t c", "a ": "a", " a": "a",
		"\u00a0a\u00a0": "\u00a0a\u00a0", "\u2003a": "\u2003a", "\va\f": "\va\f", " \x80 ": "\x80", " \xff\xff ": "\xff\xff",
	} {
		same(t, "Trim", fold.Trim(s), want)
	}
}

// P2.1
func TestAll(t *testing.T) {
	for _, c := range []struct {
		s, among string
		want     bool
	}{
		{"", "", true}, {"", "ab", true}, {"a", "", false}, {"abba", "ab", true}, {"abc", "ab", false}, {"cab", "ab", false},
		{"A", "a", false}, {"\x00", "a", false}, {"\xff\x00", "\x00\xff", true}, {"\xc3", "é", true}, {"é", "\xc3", false}, {"\xff", "\ufffd", false}, {everyByte, everyByte, true},
	} {
		same(t, c.s+" among "+c.among, fold.All(c.s, c.among), c.want)
	}
	for i := range 256 {
		c := everyByte[i : i+1]
		same(t, "All", fold.All(c, strings.ReplaceAll(everyByte, c, "")), false)
		same(t, "All", fold.All(c, c), true)
	}
}

type numberCase struct {
	s    string
	most uint64
	n    uint64
	kind api.Errno
	at   int
}

func checkNumbers(t *testing.T, call func(string, uint64) (uint64, error), list []numberCase) {
	t.Helper()
	for _, c := range list {
		n, err := call(c.s, c.most)
		same(t, c.s, n, c.n)
		if c.kind == 0 {
			same(t, c.s, err, error(nil))
		} else {
			wrong(t, c.s, err, c.kind, c.at)
		}
	}
}

// P2.2
func TestDecimal(t *testing.T) {
	noughts := strings.Repeat("0", 1000)
	checkNumbers(t, fold.Decimal, []numberCase{
		{s: "0"}, {s: "0", most: greatest}, {s: "7", most: 7, n: 7}, {s: "1234567890", most: greatest, n: 1234567890},
		{s: noughts}, {s: noughts + "255", most: 255, n: 255}, {s: noughts + "256", most: 255, kind: api.ErrRange},
		{s: "1", kind: api.ErrRange}, {s: "8", most: 7, kind: api.ErrRange}, {s: "10", most: 9, kind: api.ErrRange}, {s: "99", most: 100, n: 99}, {s: "100", most: 100, n: 100}, {s: "101", most: 100, kind: api.ErrRange},
		{s: "18446744073709551615", most: greatest, n: greatest}, {s: "18446744073709551614", most: greatest, n: greatest - 1},
		{s: "18446744073709551615", most: greatest - 1, kind: api.ErrRange}, {s: "18446744073709551616", most: greatest, kind: api.ErrRange},
		{s: "18446744073709551620", most: greatest, kind: api.ErrRange}, {s: "36893488147419103232", most: greatest, kind: api.ErrRange}, {s: "1" + noughts, most: greatest, kind: api.ErrRange},
		{s: "", kind: api.ErrShort}, {s: "", most: greatest, kind: api.ErrShort},
		{s: "-1", most: 9, kind: api.ErrForm}, {s: "+1", most: 9, kind: api.ErrForm}, {s: "1 ", most: 9, kind: api.ErrForm, at: 1}, {s: "1_0", most: 99, kind: api.ErrForm, at: 1}, {s: "0x1", most: 9, kind: api.ErrForm, at: 1}, {s: "1a2b", most: 99, kind: api.ErrForm, at: 1},
		{s: "\u0663", most: 9, kind: api.ErrForm}, {s: "12\xff", most: 99, kind: api.ErrForm, at: 2}, {s: "999x", most: 9, kind: api.ErrForm, at: 3}, {s: "1" + noughts + "/", most: greatest, kind: api.ErrForm, at: 1001},
	})
}

// P2.2
func TestHex(t *testing.T) {
	noughts := strings.Repeat("0", 1000)
	checkNumbers(t, fold.Hex, []numberCase{
		{s: "0fF", most: 255, n: 255}, {s: "0"}, {s: "9aA", most: greatest, n: 0x9aa}, {s: "abcdef", most: greatest, n: 0xabcdef}, {s: "ABCDEF", most: greatest, n: 0xabcdef},
		{s: noughts + "ff", most: 255, n: 255}, {s: "100", most: 255, kind: api.ErrRange}, {s: "a", most: 9, kind: api.ErrRange}, {s: "1", kind: api.ErrRange},
		{s: "fFfFfFfFfFfFfFfF", most: greatest, n: greatest}, {s: "ffffffffffffffff", most: greatest - 1, kind: api.ErrRange}, {s: "10000000000000000", most: greatest, kind: api.ErrRange}, {s: "1" + noughts, most: greatest, kind: api.ErrRange},
		{s: "", kind: api.ErrShort}, {s: "g", most: 9, kind: api.ErrForm}, {s: "G", most: 9, kind: api.ErrForm}, {s: "0x1", most: 9, kind: api.ErrForm, at: 1}, {s: "ff:", most: 1, kind: api.ErrForm, at: 2}, {s: "1\xe9", most: 9, kind: api.ErrForm, at: 1}, {s: "1" + noughts + "g", most: 9, kind: api.ErrForm, at: 1001},
	})
}

// P2.2: of every byte it is known whether it is a digit, and which.
func TestEveryDigit(t *testing.T) {
	for i := range 256 {
		c := everyByte[i : i+1]
		for base, call := range map[int]func(string, uint64) (uint64, error){10: fold.Decimal, 16: fold.Hex} {
			n, err := call(c, 15)
			if at := strings.Index("0123456789abcdef"[:base], fold.Lower(c)); at >= 0 {
				same(t, c, n, uint64(at))
				same(t, c, err, error(nil))
			} else {
				same(t, c, n, uint64(0))
				wrong(t, c, err, api.ErrForm, 0)
			}
		}
	}
}

// P2.2: every number up to a bound, against every bound.
func TestNumbersAgainstBounds(t *testing.T) {
	for n := range uint64(300) {
		for most := range uint64(300) {
			decimal, errD := fold.Decimal(strconv.FormatUint(n, 10), most)
			hex, errH := fold.Hex(strconv.FormatUint(n, 16), most)
			if n <= most && (decimal != n || hex != n || errD != nil || errH != nil) {
				t.Fatalf("%d of %d: %d, %v, %d, %v", n, most, decimal, errD, hex, errH)
			}
			if n > most && (decimal != 0 || hex != 0 || !errors.Is(errD, api.ErrRange) || !errors.Is(errH, api.ErrRange)) {
				t.Fatalf("%d of %d: %d, %v, %d, %v", n, most, decimal, errD, hex, errH)
			}
		}
	}
}

// P2.3
func TestDigits(t *testing.T) {
	for n, want := range map[uint64]string{0: "0", 7: "7", 10: "10", 99: "99", 100: "100", 1234567890: "1234567890", 1 << 63: "9223372036854775808", greatest: "18446744073709551615"} {
		same(t, "Digits", fold.Digits(n), want)
		back, err := fold.Decimal(want, greatest)
		same(t, "Decimal of Digits", back, n)
		same(t, "its error", err, error(nil))
	}
}

// P2.3
func TestHexDigits(t *testing.T) {
	for _, c := range []struct {
		n     uint64
		width int
		want  string
	}{
		{0, 0, "0"}, {0, 1, "0"}, {0, 2, "00"}, {0, -1, "0"}, {0, math.MinInt, "0"}, {0, math.MaxInt, "0000000000000000"},
		{0xab, 0, "AB"}, {0xab, 1, "AB"}, {0xab, 2, "AB"}, {0xab, 3, "0AB"}, {0xab, 4, "00AB"}, {0xabcdef, -7, "ABCDEF"}, {0x1a, math.MinInt, "1A"},
		{0x9f, 15, "00000000000009F"}, {0x9f, 16, "000000000000009F"}, {0x9f, 17, "000000000000009F"}, {0x9f, math.MaxInt, "000000000000009F"},
		{greatest, 0, "FFFFFFFFFFFFFFFF"}, {greatest, 16, "FFFFFFFFFFFFFFFF"}, {greatest, 99, "FFFFFFFFFFFFFFFF"}, {0x123456789abcdef0, 3, "123456789ABCDEF0"},
	} {
		same(t, "HexDigits of width "+strconv.Itoa(c.width), fold.HexDigits(c.n, c.width), c.want)
	}
}

// P2.4
func TestFields(t *testing.T) {
	for _, c := range []struct {
		s    string
		mark byte
		most int
		want []string
	}{
		{"", ',', 1, []string{""}}, {"a", ',', 1, []string{"a"}}, {",", ',', 2, []string{"", ""}}, {"a,,b", ',', 3, []string{"a", "", "b"}}, {",a,", ',', 9, []string{"", "a", ""}},
		{"a,b;c", ';', 2, []string{"a,b", "c"}}, {"a b", ',', math.MaxInt, []string{"a b"}}, {"aXxX", 'X', 3, []string{"a", "x", ""}}, {"a\x00b", 0, 2, []string{"a", "b"}}, {"a\xffb", 0xff, 2, []string{"a", "b"}}, {"é", 0xc3, 2, []string{"", "\xa9"}}, {"é", 0xe9, 1, []string{"é"}},
	} {
		list, err := fold.Fields(c.s, c.mark, c.most)
		same(t, c.s, list, c.want)
		same(t, c.s, err, error(nil))
	}
}

// P2.4
func TestFieldsErrors(t *testing.T) {
	for _, c := range []struct {
		s    string
		most int
		kind api.Errno
		at   int
	}{
		{"", 0, api.ErrArg, 0}, {"a,b", 0, api.ErrArg, 0}, {"a,b", -1, api.ErrArg, 0}, {"a,b", math.MinInt, api.ErrArg, 0},
		{",", 1, api.ErrMany, 0}, {"abc,d", 1, api.ErrMany, 3}, {"a,b,c", 1, api.ErrMany, 1}, {"a,b,c", 2, api.ErrMany, 3}, {"a,b,c,d,", 4, api.ErrMany, 7}, {",,,,", 3, api.ErrMany, 2},
	} {
		list, err := fold.Fields(c.s, ',', c.most)
		wrong(t, c.s, err, c.kind, c.at)
		if list != nil {
			t.Errorf("%q: %q beside an error", c.s, list)
		}
	}
}

// share tells whether two texts lie in one memory.
func share(a, b string) bool {
	if a == "" || b == "" {
		return false
	}
	from := func(s string) uintptr { return uintptr(unsafe.Pointer(unsafe.StringData(s))) }
	return from(a) < from(b)+uintptr(len(b)) && from(b) < from(a)+uintptr(len(a))
}

// P2.5
func TestAnswersAreNew(t *testing.T) {
	in := strings.Repeat("ab,", 9) + "cd"
	listA, _ := fold.Fields(in, ',', 99)
	listB, _ := fold.Fields(in, ',', 99)
	for i, s := range listA {
		if share(s, in) || share(s, listB[i]) {
			t.Errorf("the part %d is shared", i)
		}
	}
	want := append([]string{}, listB...)
	clear(listA[:cap(listA)])
	same(t, "a list, when another one is written over", listB, want)
	if share(fold.Lower(in), in) || share(fold.Trim(in), in) || share(fold.Trim(" "+in), in) {
		t.Error("a text is shared")
	}
	_, errA := fold.Fields("", ',', 0)
	_, errB := fold.Fields("", ',', 0)
	errA.(*api.Fault).At = 9
	wrong(t, "Fields", errB, api.ErrArg, 0)
}

// P1 and P2: all calls end, none panics, and a second run answers what the first one did.
func TestAnyArguments(t *testing.T) {
	texts := []string{"", "0", ",", "aA\xff", everyByte, strings.Repeat("9", 999), strings.Repeat(",", 99)}
	numbers := []int{math.MinInt, -1, 0, 1, 2, 16, 17, 100, math.MaxInt}
	run := func() []any {
		var all []any
		keep := func(answers ...any) { all = append(all, answers...) }
		for _, s := range texts {
			keep(fold.Lower(s), fold.Trim(s))
			for _, other := range texts {
				keep(fold.Same(s, other), fold.All(s, other))
			}
			for _, n := range numbers {
				list, errF := fold.Fields(s, ',', n)
				decimal, errD := fold.Decimal(s, uint64(n))
				hex, errH := fold.Hex(s, uint64(n))
				keep(list, errF, decimal, errD, hex, errH)
			}
		}
		for _, n := range numbers {
			keep(fold.Digits(uint64(n)), fold.HexDigits(uint64(n), n))
		}
		return all
	}
	same(t, "the second run", run(), run())
}
