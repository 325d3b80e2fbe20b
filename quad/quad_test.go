package quad_test

import (
	"errors"
	"math"
	"math/big"
	"math/rand"
	"reflect"
	"strconv"
	"strings"
	"testing"
	"unsafe"

	"waybill/api"
	"waybill/quad"
)

func same(t *testing.T, what string, got, want any) {
	t.Helper()
	if !reflect.DeepEqual(got, want) {
		t.Errorf("%q: got %#v, want %#v", what, got, want)
	}
}

// wrong asks for the error itself, and for what errors.Is and errors.As tell of it.
func wrong(t *testing.T, what string, err error, kind api.Errno, at int) {
	t.Helper()
	var f *api.Fault
	if !errors.As(err, &f) {
		t.Errorf("%q: got %v, want errno %d at %d", what, err, kind, at)
		return
	}
	if f.Kind != kind || f.At != at || !errors.Is(err, kind) || f.Inner != nil {
		t.Errorf("%q: got errno %d at %d, want %d at %d", what, f.Kind, f.At, kind, at)
	}
}

// parses asks for a text's address, by its number.
func parses(t *testing.T, s string, want uint32) {
	t.Helper()
	a, err := quad.Parse(s)
	same(t, "Parse of "+s, a, address(want))
	same(t, "the error of "+s, err, error(nil))
}

// refuses asks for the error of Parse, and for nothing beside it.
func refuses(t *testing.T, s string, kind api.Errno, at int) {
	t.Helper()
	a, err := quad.Parse(s)
	wrong(t, "Parse of "+s, err, kind, at)
	same(t, "Parse of "+s+" beside an error", a, api.V4{})
}

// notStrict asks for the error of Strict, and for nothing beside it.
func notStrict(t *testing.T, s string) {
	t.Helper()
	a, err := quad.Strict(s)
	wrong(t, "Strict of "+s, err, api.ErrForm, 0)
	same(t, "Strict of "+s+" beside an error", a, api.V4{})
}

// address is the address of a number, byte by byte.
func address(n uint32) api.V4 {
	var a api.V4
	for i := 3; i >= 0; i-- {
		a[i] = byte(n % 256)
		n /= 256
	}
	return a
}

// spelled is an address's text, byte by byte.
func spelled(a api.V4) string {
	return strconv.Itoa(int(a[0])) + "." + strconv.Itoa(int(a[1])) + "." + strconv.Itoa(int(a[2])) + "." + strconv.Itoa(int(a[3]))
}

// addresses are some of all kinds.
func addresses() []api.V4 {
	list := []api.V4{{}, {255, 255, 255, 255}, {1, 2, 3, 4}, {127, 0, 0, 1}, {0, 0, 1, 0}, {10, 100, 9, 99}}
	for i := range 4 {
		for c := range 256 {
			var a api.V4
			a[i] = byte(c)
			list = append(list, a)
		}
	}
	r := rand.New(rand.NewSource(11))
	for range 5000 {
		list = append(list, address(r.Uint32()))
	}
	return list
}

// P11.1
func TestTextAndNumber(t *testing.T) {
	for a, want := range map[api.V4]string{{}: "0.0.0.0", {1, 2, 3, 4}: "1.2.3.4", {255, 255, 255, 255}: "255.255.255.255", {0, 10, 0, 100}: "0.10.0.100", {192, 168, 7, 99}: "192.168.7.99"} {
		same(t, "Text of "+want, quad.Text(a), want)
	}
	for a, want := range map[api.V4]uint32{{}: 0, {1, 2, 3, 4}: 0x01020304, {255, 255, 255, 255}: math.MaxUint32, {128}: 1 << 31, {0, 1}: 1 << 16, {0, 0, 1}: 1 << 8, {0, 0, 0, 1}: 1, {127, 0, 0, 1}: 2130706433} {
		same(t, "Number of "+spelled(a), quad.Number(a), want)
		same(t, "Of of "+spelled(a), quad.Of(want), a)
	}
	for _, a := range addresses() {
		n := quad.Number(a)
		if quad.Text(a) != spelled(a) || address(n) != a || quad.Of(n) != a {
			t.Fatalf("%v: %q, %d, %v", a, quad.Text(a), n, quad.Of(n))
		}
	}
}

// P11.2
func TestStrict(t *testing.T) {
	for _, want := range addresses() {
		a, err := quad.Strict(spelled(want))
		if a != want || err != nil {
			t.Fatalf("%v: %v, %v", want, a, err)
		}
	}
	for _, s := range []string{
		"", ".", "...", "1", "1.2.3", "1.2.772", "1.2.3.", ".1.2.3", "1..2.3", "1.2.3.4.", "1.2.3.4.5", "1.2.3.4..", ".1.2.3.4",
		"01.2.3.4", "1.2.3.04", "00.0.0.0", "1.2.3.00", "0x1.2.3.4", "1.2.3.0x4", "0x.0.0.0", "256.2.3.4", "1.2.3.256", "1.2.3.1000", "1.2.3.18446744073709551620",
		"1.2.3.a", "a.b.c.d", "1.2.3.4 ", " 1.2.3.4", "1. 2.3.4", "+1.2.3.4", "-1.2.3.4", "1.2.3.-4", "1,2,3,4", "1.2.3.4\n", "1.2.3.4\x00", "1.2.3.\u0664", "1.2.3.\xff", "1_0.2.3.4", "0x7f000001", "2130706433", "::1", "1.2.3.4/8",
	} {
		notStrict(t, s)
	}
	notStrict(t, strings.Repeat("0", 9999)+"1.2.3.4")
	notStrict(t, strings.Repeat("1.", 9999))
}

// P11.2: texts near to an address's are its only if it is exactly that.
func TestStrictNear(t *testing.T) {
	r := rand.New(rand.NewSource(112))
	for range 20000 {
		b := []byte(spelled(address(r.Uint32())))
		at := r.Intn(len(b))
		b[at] = "0123456789.x"[r.Intn(12)]
		if r.Intn(2) == 0 {
			b = append(b[:at], b[at+1:]...)
		}
		s := string(b)
		want, ok := plainAddress(s)
		a, err := quad.Strict(s)
		if a != want || (err == nil) != ok {
			t.Fatalf("%q: %v, %v", s, a, err)
		}
	}
}

// plainAddress reads an address's text by the library's numbers.
func plainAddress(s string) (a api.V4, ok bool) {
	parts := strings.Split(s, ".")
	if len(parts) != 4 {
		return a, false
	}
	for i, part := range parts {
		n, err := strconv.Atoi(part)
		if err != nil || n < 0 || n > 255 || strconv.Itoa(n) != part {
			return api.V4{}, false
		}
		a[i] = byte(n)
	}
	return a, true
}

// P11.3
func TestNumeric(t *testing.T) {
	for _, s := range []string{
		"0", "1", "9", "1.", "a.1", "a.1.", "a.09", "a.08.", "00", "1.2.3.4", "1.2.3.4.5.6", "..1", "..1.", ".1", ".0x.", "999999999999999999999999", "a.256",
		"0x", "0X", "0x.", "a.0x", "a.0X.", "0xabcdef", "0XABCDEF", "a.0x0123456789", "0xff.", "\xff.1", "é.0xF", "a-.7", "1a.1", " .1",
	} {
		same(t, "Numeric of "+s, quad.Numeric(s), true)
	}
	for _, s := range []string{
		"", ".", "..", "...", "1..", "a..", "a.", "a", "1.a", "1a", "a1", "1.a.", "1. ", " 1", "1 ", "-1", "+1", "1_0", "1,2", "\u0661", "1\xff", "1\x00", "x1", "x",
		"0xg", "0x.g", "0xfg", "0xgf", "a.0xfg", "0xx", "0x0x", "0x-1", "0x 1", "00x1", "1x1", "0xé", "ff", "a.ff", "0Xg", "0x1.a", "0a", "0b1", "0o7",
	} {
		same(t, "Numeric of "+s, quad.Numeric(s), false)
	}
	same(t, "Numeric of many digits", quad.Numeric(strings.Repeat("7", 9999)), true)
	same(t, "Numeric of many digits and a letter", quad.Numeric(strings.Repeat("7", 9999)+"x"), false)
}

// P11.3: of every byte it is known what it does at each place of a last label.
func TestNumericEveryByte(t *testing.T) {
	const decimal, hex = "0123456789", "0123456789abcdefABCDEF"
	for i := range 256 {
		c := string([]byte{byte(i)})
		digit := strings.Contains(decimal, c)
		for s, want := range map[string]bool{
			"a." + c: digit, "a." + c + "1": digit || c == ".", "a.1" + c: digit || c == ".", "a.0" + c: digit || c == "." || c == "x" || c == "X", "a.0x" + c: strings.Contains(hex, c) || c == ".", "a.0X1" + c + "2": strings.Contains(hex, c) || c == ".", c + "x1": c == "0", "a" + c + "1": c == ".",
		} {
			same(t, "Numeric of "+s, quad.Numeric(s), want)
		}
	}
}

// P11.4, the chapter's example, and what a part's number is.
func TestParse(t *testing.T) {
	for s, want := range map[string]uint32{
		"0": 0, "1": 1, "256": 256, "65536": 65536, "4294967295": math.MaxUint32, "1.2.3.4": 0x01020304, "1.2.772": 0x01020304, "1.131844": 0x01020304, "16909060": 0x01020304, "1.2.3.4.": 0x01020304, "16909060.": 0x01020304,
		"0x7f.1": 0x7f000001, "0x7f000001": 0x7f000001, "0177.1": 0x7f000001, "017700000001": 0x7f000001, "127.0.0.1": 0x7f000001, "127.1": 0x7f000001, "127.0x1.": 0x7f000001,
		"0x": 0, "0X": 0, "0x.0x.0x.0x": 0, "0x.": 0, "00": 0, "000.00": 0, "0.0.0.0": 0, "0x1.0X.010": 0x01000008, "1.0x": 0x01000000,
		"07": 7, "010": 8, "0010": 8, "0xaBcDeF": 0xabcdef, "0XABCDEF": 0xabcdef, "0x00ff": 255, "10": 10, "99": 99, "0x10": 16,
		"255.255.255.255": math.MaxUint32, "0xff.0377.255.0xFF": math.MaxUint32, "255.16777215": math.MaxUint32, "255.255.65535": math.MaxUint32, "0xffffffff": math.MaxUint32, "037777777777": math.MaxUint32, "255.0xffffff": math.MaxUint32, "255.255.0177777": math.MaxUint32,
	} {
		parses(t, s, want)
	}
	noughts := strings.Repeat("0", 9999)
	parses(t, noughts, 0)
	parses(t, noughts+"377.1", 0xff000001)
	parses(t, "1.0x"+noughts+"ffffff", 0x01ffffff)
	parses(t, "0x"+noughts+"1.2.3.0"+noughts+"4", 0x01020304)
}

// P11.4: how great a number may be.
func TestParseRange(t *testing.T) {
	noughts := strings.Repeat("0", 9999)
	for s, at := range map[string]int{
		"4294967296": 0, "0x100000000": 0, "040000000000": 0, "18446744073709551615": 0, "18446744073709551616": 0, "18446744073709551620": 0, "36893488147419103233": 0, "1" + noughts: 0, "0x1" + noughts: 0, "01" + noughts: 0, "0x10000000000000001": 0, "02000000000000000000001": 0,
		"1.16777216": 2, "1.0x1000000": 2, "1.0100000000": 2, "256.1": 0, "0x100.1": 0, "0400.1": 0, "256.16777216": 0, "4294967296.": 0, "4294967295.0": 0, "16777216.1": 0,
		"1.2.65536": 4, "1.256.3": 2, "256.256.65536": 0, "1.2.0x10000": 4, "1.0400.65536": 2,
		"1.2.3.256": 6, "1.2.256.4": 4, "1.256.3.4": 2, "256.2.3.4": 0, "1.256.3.256": 2, "1.2.3.0x100": 6, "01.02.03.0400": 9, "1.2.3.256.": 6, "1.18446744073709551617.3.4": 2, "1.2.3.18446744073709551617": 6,
	} {
		refuses(t, s, api.ErrRange, at)
	}
}

// P11.4: what isn't in its form, ahead of what is too great, of the first part that has it.
func TestParseErrors(t *testing.T) {
	for _, c := range []struct {
		s    string
		kind api.Errno
		at   int
	}{
		{"", api.ErrShort, 0}, {".", api.ErrShort, 0}, {"..", api.ErrShort, 0}, {"...", api.ErrShort, 0}, {"....", api.ErrShort, 0}, {"1..", api.ErrShort, 2}, {"1..2", api.ErrShort, 2}, {".1", api.ErrShort, 0}, {".1.", api.ErrShort, 0}, {"1.22.333..", api.ErrShort, 9}, {"1.2..4", api.ErrShort, 4}, {"256..a", api.ErrShort, 4}, {"1..a", api.ErrShort, 2},
		{"a", api.ErrForm, 0}, {"1.a", api.ErrForm, 2}, {"1.a.", api.ErrForm, 2}, {"1a", api.ErrForm, 1}, {"300.a", api.ErrForm, 4}, {"a..", api.ErrForm, 0}, {"a..b", api.ErrForm, 0}, {"1.2.3.4x", api.ErrForm, 7}, {"12a4b", api.ErrForm, 2}, {"4294967296a", api.ErrForm, 10}, {strings.Repeat("9", 999) + "x.1", api.ErrForm, 999},
		{"09", api.ErrForm, 1}, {"08", api.ErrForm, 1}, {"00008", api.ErrForm, 4}, {"0179", api.ErrForm, 3}, {"0a", api.ErrForm, 1}, {"1.08.a", api.ErrForm, 3}, {"256.08", api.ErrForm, 5}, {"00x1", api.ErrForm, 2}, {"0 ", api.ErrForm, 1}, {"0b1", api.ErrForm, 1}, {"0o7", api.ErrForm, 1}, {"07_7", api.ErrForm, 2},
		{"0xg", api.ErrForm, 2}, {"0XG", api.ErrForm, 2}, {"0xfg", api.ErrForm, 3}, {"0x0x", api.ErrForm, 3}, {"0xx1", api.ErrForm, 2}, {"1.2.0xag.4", api.ErrForm, 7}, {"0x-1", api.ErrForm, 2}, {"0x_1", api.ErrForm, 2}, {"1x1", api.ErrForm, 1},
		{"-1", api.ErrForm, 0}, {"+1", api.ErrForm, 0}, {"1.-2", api.ErrForm, 2}, {" 1", api.ErrForm, 0}, {"1 ", api.ErrForm, 1}, {"1_0", api.ErrForm, 1}, {"1,2", api.ErrForm, 1}, {"\u0661", api.ErrForm, 0}, {"1.2\xff", api.ErrForm, 3}, {"1\x00", api.ErrForm, 1}, {"1e3", api.ErrForm, 1},
		{"1.2.3.4.5", api.ErrMany, 7}, {"1.2.3.4..", api.ErrMany, 7}, {"1.2.3.4.5.", api.ErrMany, 7}, {".....", api.ErrMany, 3}, {"....1", api.ErrMany, 3}, {"a.b.c.d.e", api.ErrMany, 7}, {"256.256.256.256.256", api.ErrMany, 15}, {"....a", api.ErrMany, 3}, {"0x.0x.0x.0x.0x", api.ErrMany, 11}, {strings.Repeat("1.", 9999), api.ErrMany, 7},
	} {
		refuses(t, c.s, c.kind, c.at)
	}
}

// reference is the chapter's own way to an address, its numbers without bound: an address, or an error's kind and place.
func reference(s string) (n uint32, kind api.Errno, at int) {
	if len(s) > 1 && s[len(s)-1] == '.' {
		s = s[:len(s)-1]
	}
	parts := strings.Split(s, ".")
	if len(parts) > 4 {
		return 0, api.ErrMany, len(strings.Join(parts[:4], "."))
	}
	var values []*big.Int
	var places []int
	for i, part := range parts {
		from := len(strings.Join(parts[:i], "."))
		if i > 0 {
			from++
		}
		if part == "" {
			return 0, api.ErrShort, from
		}
		skip, base := 0, 10
		if strings.HasPrefix(strings.ToLower(part), "0x") {
			skip, base = 2, 16
		} else if len(part) > 1 && part[0] == '0' {
			skip, base = 1, 8
		}
		value := new(big.Int)
		for j := skip; j < len(part); j++ {
			d := strings.IndexByte("0123456789abcdef"[:base], strings.ToLower(part)[j])
			if d < 0 {
				return 0, api.ErrForm, from + j
			}
			value.Add(value.Mul(value, big.NewInt(int64(base))), big.NewInt(int64(d)))
		}
		values, places = append(values, value), append(places, from)
	}
	sum := new(big.Int)
	for i, value := range values {
		most, weight := big.NewInt(256), big.NewInt(1)
		if i < len(values)-1 {
			weight.Exp(big.NewInt(256), big.NewInt(int64(3-i)), nil)
		} else {
			most.Exp(most, big.NewInt(int64(5-len(values))), nil)
		}
		if value.Cmp(most) >= 0 {
			return 0, api.ErrRange, places[i]
		}
		sum.Add(sum, weight.Mul(weight, value))
	}
	return uint32(sum.Uint64()), 0, 0
}

func holds(t *testing.T, s string) {
	t.Helper()
	if n, kind, at := reference(s); kind == 0 {
		parses(t, s, n)
	} else {
		refuses(t, s, kind, at)
	}
}

// P11.4: all short texts of some bytes.
func TestParseAllShort(t *testing.T) {
	list := []string{""}
	for from := 0; len(list[from]) < 6; from++ {
		for _, c := range "0179xa." {
			list = append(list, list[from]+string(c))
		}
	}
	for _, s := range list {
		if holds(t, s); t.Failed() {
			return
		}
	}
}

// P11.4: parts of all bases, near the bounds of their numbers.
func TestParseByChance(t *testing.T) {
	r := rand.New(rand.NewSource(114))
	for range 50000 {
		var parts []string
		for range 1 + r.Intn(5) {
			n := uint64(1)<<(8*r.Intn(5)) - 1 + uint64(r.Intn(3))
			if r.Intn(2) == 0 {
				n = uint64(r.Intn(260))
			}
			text := []string{strconv.FormatUint(n, 10), "0x" + strconv.FormatUint(n, 16), "0" + strconv.FormatUint(n, 8), "0X00" + strings.ToUpper(strconv.FormatUint(n, 16))}[r.Intn(4)]
			if r.Intn(20) == 0 {
				text += []string{"", "8", "g", "F", ".", "99999999999999999999"}[r.Intn(6)]
			}
			parts = append(parts, text)
		}
		if holds(t, strings.Join(parts, ".")); t.Failed() {
			return
		}
	}
}

// share tells whether two texts lie in one memory.
func share(a, b string) bool {
	if a == "" || b == "" {
		return false
	}
	from := func(s string) uintptr { return uintptr(unsafe.Pointer(unsafe.StringData(s))) }
	return from(a) < from(b)+uintptr(len(b)) && from(b) < from(a)+uintptr(len(a))
}

// P11.5
func TestAnswersAreNew(t *testing.T) {
	for _, a := range addresses()[:99] {
		if textA, textB := quad.Text(a), quad.Text(a); share(textA, textB) {
			t.Errorf("%q is shared", textA)
		}
	}
	for _, s := range []string{"", "a", "256.1", "1.2.3.4.5"} {
		_, errA := quad.Parse(s)
		_, errB := quad.Parse(s)
		want := *errB.(*api.Fault)
		*errA.(*api.Fault) = api.Fault{Kind: api.ErrState, At: 99}
		wrong(t, "Parse of "+s, errB, want.Kind, want.At)
		refuses(t, s, want.Kind, want.At)
		_, errA = quad.Strict(s)
		errA.(*api.Fault).At = 99
		notStrict(t, s)
	}
}

// P1 and P2: all calls end, none panics, and a second run answers what the first one did.
func TestAnyArguments(t *testing.T) {
	every := make([]byte, 256)
	for i := range every {
		every[i] = byte(i)
	}
	texts := []string{"", ".", "..", "0", "0x", "0X", "0x.", "x", "\xff", "\x00.", "é.1", string(every), strings.Repeat(".", 99999), strings.Repeat("9", 99999), strings.Repeat("0x", 9999), "0" + strings.Repeat("7", 99999) + "."}
	run := func() []any {
		var all []any
		keep := func(answers ...any) { all = append(all, answers...) }
		for _, s := range texts {
			parsed, errP := quad.Parse(s)
			strict, errS := quad.Strict(s)
			keep(quad.Numeric(s), parsed, errP, strict, errS)
		}
		for _, a := range addresses() {
			keep(quad.Text(a), quad.Number(a), quad.Of(quad.Number(a)))
		}
		return all
	}
	same(t, "the second run", run(), run())
}
