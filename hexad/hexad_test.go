package hexad_test

import (
	"errors"
	"math/rand"
	"net/netip"
	"reflect"
	"strconv"
	"strings"
	"testing"
	"unsafe"

	"waybill/api"
	"waybill/hexad"
)

func same(t *testing.T, what string, got, want any) {
	t.Helper()
	if !reflect.DeepEqual(got, want) {
		t.Errorf("%q: got %#v, want %#v", what, got, want)
	}
}

// parses asks for a text's numbers.
func parses(t *testing.T, s string, want [8]uint16) {
	t.Helper()
	gives(t, s, address(want))
}

// gives asks for a text's address.
func gives(t *testing.T, s string, want api.V6) {
	t.Helper()
	a, err := hexad.Parse(s)
	same(t, "Parse of "+s, a, want)
	same(t, "the error of "+s, err, error(nil))
}

// refuses asks for the error of Parse, for what errors.Is and errors.As tell of it, and for nothing beside it.
func refuses(t *testing.T, s string) {
	t.Helper()
	a, err := hexad.Parse(s)
	var f *api.Fault
	if !errors.As(err, &f) || f.Kind != api.ErrForm || f.At != 0 || f.Inner != nil || !errors.Is(err, api.ErrForm) {
		t.Errorf("Parse of %q: got %v", s, err)
	}
	same(t, "Parse of "+s+" beside an error", a, api.V6{})
}

// address is the address of numbers, byte by byte.
func address(g [8]uint16) api.V6 {
	var a api.V6
	for i := range a {
		a[i] = byte(g[i/2])
		if i%2 == 0 {
			a[i] = byte(g[i/2] / 256)
		}
	}
	return a
}

// canonical is an address's text by the chapter's words: of all rows of two or more noughts the longest one, and the first one of these.
func canonical(g [8]uint16) string {
	groups := make([]string, 8)
	for i, n := range g {
		groups[i] = strconv.FormatInt(int64(n), 16)
	}
	for count := 8; count >= 2; count-- {
		for from := 0; from+count <= 8; from++ {
			if strings.Trim(strings.Join(groups[from:from+count], ""), "0") == "" {
				return strings.Join(groups[:from], ":") + "::" + strings.Join(groups[from+count:], ":")
			}
		}
	}
	return strings.Join(groups, ":")
}

// shapes calls with the numbers of all rows of noughts, the others being of one to four digits.
func shapes(call func(g [8]uint16)) {
	others := []uint16{1, 0xf, 0x10, 0xabc, 0xffff, 0x2001, 0xff00, 0x100}
	for set := range 256 {
		for turn := range others {
			var g [8]uint16
			for i := range g {
				if set>>i&1 == 1 {
					g[i] = others[(i+turn)%8]
				}
			}
			call(g)
		}
	}
}

// P12.1: groups alone.
func TestParseGroups(t *testing.T) {
	all := [8]uint16{1, 2, 3, 4, 5, 6, 7, 8}
	parses(t, "1:2:3:4:5:6:7:8", all)
	parses(t, "0001:002:03:4:0005:006:07:8", all)
	parses(t, "0:0:0:0:0:0:0:0", [8]uint16{})
	parses(t, "0000:000:00:0:0:00:000:0000", [8]uint16{})
	parses(t, "ffff:FFFF:fFfF:0:a:B:c0:D00", [8]uint16{0xffff, 0xffff, 0xffff, 0, 10, 11, 0xc0, 0xd00})
	parses(t, "0123:4567:89ab:cdef:CDEF:89AB:1000:0010", [8]uint16{0x123, 0x4567, 0x89ab, 0xcdef, 0xcdef, 0x89ab, 0x1000, 0x10})
	for _, s := range []string{
		"", ":", "1", "ffff", "1:2", "1:2:3:4:5:6:7", "1:2:3:4:5:6:7:8:9", "1:2:3:4:5:6:7:", ":2:3:4:5:6:7:8", ":1:2:3:4:5:6:7:8", "1:2:3:4:5:6:7:8:", ":1:2:3:4:5:6:7:", "::::::::", ":::::::",
		"00001:2:3:4:5:6:7:8", "1:2:3:4:5:6:7:00008", "1:2:3:4:5:6:7:10000", "1:2:3:4:5:6:7:g", "G:2:3:4:5:6:7:8", "1:2:3:0x4:5:6:7:8", "1:2:3:-4:5:6:7:8", "1:2:3:+4:5:6:7:8", "1:2:3: 4:5:6:7:8", " 1:2:3:4:5:6:7:8", "1:2:3:4:5:6:7:8 ", "1:2:3:4:5:6:7:8\n", "1:2:3:4:5:6:7:8\x00", "1:2:3:4:5:6:7:\xff", "1:2:3:4:5:6:7:\u0661", "1.2.3.4.5.6.7.8", "1;2;3;4;5;6;7;8", "[1:2:3:4:5:6:7:8]", "1:2:3:4:5:6:7:8%1", "1:2:3:4:5:6:7:8/64", "1:2:3:4:5:6:7:_8",
	} {
		refuses(t, s)
	}
}

// P12.1: groups on both sides of a gap.
func TestParseGap(t *testing.T) {
	parses(t, "::", [8]uint16{})
	parses(t, "::1", [8]uint16{7: 1})
	parses(t, "1::", [8]uint16{1})
	parses(t, "1::2", [8]uint16{0: 1, 7: 2})
	parses(t, "::0", [8]uint16{})
	parses(t, "0::0000", [8]uint16{})
	parses(t, "fe80::a:b", [8]uint16{0: 0xfe80, 6: 10, 7: 11})
	parses(t, "1:2:3:4:5:6:7::", [8]uint16{1, 2, 3, 4, 5, 6, 7, 0})
	parses(t, "::2:3:4:5:6:7:8", [8]uint16{0, 2, 3, 4, 5, 6, 7, 8})
	parses(t, "1:2:3::5:6:7:8", [8]uint16{1, 2, 3, 0, 5, 6, 7, 8})
	parses(t, "1:2::7:8", [8]uint16{0: 1, 1: 2, 6: 7, 7: 8})
	for _, s := range []string{
		":::", "::::", ":::1", "1:::", "1:::2", ":::1:::", "::1::", "1::2::3", "::1:2::", "1::2::", "::::1",
		"1:2:3:4:5:6:7:8::", "::1:2:3:4:5:6:7:8", "1:2:3:4::5:6:7:8", "1:2:3:4:5:6:7::8", "1::2:3:4:5:6:7:8", "1:2:3:4:5:6:7:8:9::", "::1:2:3:4:5:6:7:8:9",
		":1::", "::1:", ":1::2", "1::2:", ":::2:3", "1: ::2", "12345::", "::12345", "::00001", "::10000", "g::", "::g", "::1%eth0", "::%", "::1 ", " ::1", ":: 1", "::\xff", "1::\x00", "[::1]", "::1/128", "::0x1", "::-1", "::.", "::1.",
	} {
		refuses(t, s)
	}
}

// P12.1: an IPv4 address at the end.
func TestParseQuad(t *testing.T) {
	parses(t, "1:2:3:4:5:6:1.2.3.4", [8]uint16{1, 2, 3, 4, 5, 6, 0x102, 0x304})
	parses(t, "::1.2.3.4", [8]uint16{6: 0x102, 7: 0x304})
	parses(t, "::ffff:1.2.3.4", [8]uint16{5: 0xffff, 6: 0x102, 7: 0x304})
	parses(t, "::0.0.0.0", [8]uint16{})
	parses(t, "::0.0.0.1", [8]uint16{7: 1})
	parses(t, "::255.255.255.255", [8]uint16{6: 0xffff, 7: 0xffff})
	parses(t, "::10.0.171.205", [8]uint16{6: 0xa00, 7: 0xabcd})
	parses(t, "1:2:3:4:5::1.2.3.4", [8]uint16{1, 2, 3, 4, 5, 0, 0x102, 0x304})
	parses(t, "::2:3:4:5:6:1.2.3.4", [8]uint16{0, 2, 3, 4, 5, 6, 0x102, 0x304})
	parses(t, "1::6:1.2.3.4", [8]uint16{0: 1, 5: 6, 6: 0x102, 7: 0x304})
	parses(t, "0064:ff9b::192.0.2.33", [8]uint16{0: 0x64, 1: 0xff9b, 6: 0xc000, 7: 0x221})
	for _, s := range []string{
		"1.2.3.4", ":1.2.3.4", "1:2:3:4:5:1.2.3.4", "1:2:3:4:5:6:7:1.2.3.4", "1:2:3:4:5:6:7:8:1.2.3.4", "1:2:3:4:5:6::1.2.3.4", "::1:2:3:4:5:6:1.2.3.4", "1:2:3::4:5:6:1.2.3.4", ":::1.2.3.4", "1::2::1.2.3.4",
		"1.2.3.4::", "1.2.3.4::1", "1.2.3.4:1:2:3:4:5:6", "1:2:3:4:5:1.2.3.4:6", "::1.2.3.4:5", "::1.2.3.4:", "1.2.3.4::1.2.3.4", "::1.2.3.4:1.2.3.4", "1:2:3:4:1.2.3.4:1.2.3.4", "1:1.2.3.4::",
		"::01.2.3.4", "::1.2.3.04", "::1.2.3", "::1.2.772", "::0x7f.1", "::1.2.3.0x4", "::1.2.3.256", "::1.2.3.4.", "::1.2.3.4.5", "::.1.2.3", "::1..2.3", "::1.2.3.a", "::a.2.3.4", "::1.2.3.4 ", ":: 1.2.3.4", "::1.2.3.4%1", "::1.2.3.\xff",
	} {
		refuses(t, s)
	}
}

// P12.2, and the chapter's example.
func TestText(t *testing.T) {
	for want, g := range map[string][8]uint16{
		"::": {}, "::1": {7: 1}, "1::": {1}, "1:2:3:4:5:6:7:8": {1, 2, 3, 4, 5, 6, 7, 8}, "abcd:ef01:ffff:10:100:1000:a:f00d": {0xabcd, 0xef01, 0xffff, 0x10, 0x100, 0x1000, 0xa, 0xf00d},
		"2001:db8::1:0:0:1": {0x2001, 0xdb8, 0, 0, 1, 0, 0, 1}, "1:0:0:2::3": {1, 0, 0, 2, 0, 0, 0, 3}, "1::2:0:0:3": {1, 0, 0, 0, 2, 0, 0, 3}, "1::2:3:0:0:4": {1, 0, 0, 2, 3, 0, 0, 4}, "::1:0:0:1:0:0": {0, 0, 1, 0, 0, 1, 0, 0}, "1:1::1:0:0": {1, 1, 0, 0, 0, 1, 0, 0}, "1:0:0:1::": {1, 0, 0, 1},
		"1:0:2:3:4:5:6:7": {1, 0, 2, 3, 4, 5, 6, 7}, "0:1:2:3:4:5:6:0": {0, 1, 2, 3, 4, 5, 6, 0}, "0:1:0:1:0:1:0:1": {0, 1, 0, 1, 0, 1, 0, 1}, "1:2:3:4:5:6:7:0": {1, 2, 3, 4, 5, 6, 7, 0}, "1:2:3:4:5:6::": {1, 2, 3, 4, 5, 6}, "::3:4:5:6:7:8": {0, 0, 3, 4, 5, 6, 7, 8}, "0:1::": {0, 1}, "::1:0": {6: 1},
		"::ffff:102:304": {5: 0xffff, 6: 0x102, 7: 0x304}, "::102:304": {6: 0x102, 7: 0x304}, "64:ff9b::102:304": {0: 0x64, 1: 0xff9b, 6: 0x102, 7: 0x304},
	} {
		same(t, "Text", hexad.Text(address(g)), want)
		parses(t, want, g)
	}
	parses(t, "2001:0db8:0:0:1:0:0:1", [8]uint16{0x2001, 0xdb8, 0, 0, 1, 0, 0, 1})
}

// P12.2: all rows of noughts, and addresses by chance.
func TestTextAndBack(t *testing.T) {
	check := func(g [8]uint16) {
		a := address(g)
		s := hexad.Text(a)
		back, err := hexad.Parse(s)
		if s != canonical(g) || back != a || err != nil {
			t.Fatalf("%x: %q, %x, %v", g, s, back, err)
		}
		if got := hexad.Groups(a); got != g || hexad.Of(g) != a {
			t.Fatalf("%x: %x, %x", g, got, hexad.Of(g))
		}
		if library := netip.AddrFrom16(a); !library.Is4In6() && library.String() != s {
			t.Fatalf("%x: %q, %v", g, s, library)
		}
	}
	shapes(check)
	r := rand.New(rand.NewSource(122))
	for range 20000 {
		var g [8]uint16
		for i := range g {
			g[i] = uint16(r.Intn(0x10000) >> r.Intn(20))
		}
		check(g)
	}
}

// P12.2: each number is two bytes, the first one with the greater weight.
func TestGroupsAndOf(t *testing.T) {
	a := api.V6{0x20, 0x01, 0x0d, 0xb8, 0, 0, 0xff, 0, 0, 0xff, 1, 2, 3, 4, 0xff, 0xfe}
	g := [8]uint16{0x2001, 0x0db8, 0, 0xff00, 0x00ff, 0x0102, 0x0304, 0xfffe}
	same(t, "Groups", hexad.Groups(a), g)
	same(t, "Of", hexad.Of(g), a)
	for i := range a {
		for c := range 256 {
			var one api.V6
			one[i] = byte(c)
			weight := 1
			if i%2 == 0 {
				weight = 256
			}
			want := [8]uint16{}
			want[i/2] = uint16(c * weight)
			if hexad.Groups(one) != want || hexad.Of(want) != one {
				t.Fatalf("%x: %x", one, hexad.Groups(one))
			}
		}
	}
}

// holds asks for what a text tells by the library of the language; it takes a zone, too, which no text here has.
func holds(t *testing.T, s string) {
	t.Helper()
	library, err := netip.ParseAddr(s)
	if err == nil && library.Is6() {
		gives(t, s, library.As16())
	} else {
		refuses(t, s)
	}
}

// P12.1: all short texts of some bytes.
func TestParseAllShort(t *testing.T) {
	list := []string{""}
	for from := 0; len(list[from]) < 8; from++ {
		for _, c := range "1f:." {
			list = append(list, list[from]+string(c))
		}
	}
	for _, s := range list {
		if holds(t, s); t.Failed() {
			return
		}
	}
}

// P12.1: texts of right parts, and of wrong ones, in any row.
func TestParseByChance(t *testing.T) {
	parts := []string{":", ":", ":", ":", ":", "::", "0", "1", "f", "ab", "00C", "FFFF", "12345", "1.2.3.4", "255.0.10.1", "1.2.3", "01.2.3.4", "g"}
	r := rand.New(rand.NewSource(121))
	right := 0
	for range 200000 {
		var text strings.Builder
		for i := range r.Intn(18) {
			if i%2 == 0 || r.Intn(20) == 0 {
				text.WriteString(parts[6+r.Intn(len(parts)-6)])
			} else {
				text.WriteString(parts[r.Intn(6)])
			}
		}
		s := text.String()
		if _, err := hexad.Parse(s); err == nil {
			right++
		}
		if holds(t, s); t.Failed() {
			return
		}
	}
	if right < 1000 {
		t.Errorf("only %d of the texts are right", right)
	}
}

// P12.1: texts of addresses, each number in any form, with a gap in place of any row of noughts, and an IPv4 address at the end; and such with a byte changed.
func TestParseForms(t *testing.T) {
	r := rand.New(rand.NewSource(120))
	shapes(func(g [8]uint16) {
		groups := make([]string, 8)
		for i, n := range g {
			groups[i] = strconv.FormatInt(int64(n), 16)
			groups[i] = strings.Repeat("0", r.Intn(5-len(groups[i]))) + groups[i]
			if r.Intn(2) == 0 {
				groups[i] = strings.ToUpper(groups[i])
			}
		}
		if r.Intn(2) == 0 {
			groups[6] = strconv.Itoa(int(g[6]>>8)) + "." + strconv.Itoa(int(g[6]&255)) + "." + strconv.Itoa(int(g[7]>>8)) + "." + strconv.Itoa(int(g[7]&255))
			groups = groups[:7]
		}
		texts := []string{strings.Join(groups, ":")}
		for from := range groups {
			for to := from + 1; to <= len(groups) && strings.Trim(groups[to-1], "0") == ""; to++ {
				texts = append(texts, strings.Join(groups[:from], ":")+"::"+strings.Join(groups[to:], ":"))
			}
		}
		for _, s := range texts {
			parses(t, s, g)
			b := []byte(s)
			b[r.Intn(len(b))] = "0f:.g"[r.Intn(5)]
			holds(t, string(b))
		}
	})
}

// P12.3
func TestMapped(t *testing.T) {
	for a, want := range map[api.V6]api.V4{
		{10: 0xff, 11: 0xff, 12: 1, 13: 2, 14: 3, 15: 4}: {1, 2, 3, 4}, {10: 0xff, 11: 0xff}: {}, {10: 0xff, 11: 0xff, 12: 255, 13: 255, 14: 255, 15: 255}: {255, 255, 255, 255}, {10: 0xff, 11: 0xff, 15: 1}: {0, 0, 0, 1},
	} {
		got, ok := hexad.Mapped(a)
		same(t, "Mapped of "+hexad.Text(a), got, want)
		same(t, "Mapped of "+hexad.Text(a), ok, true)
	}
	for _, s := range []string{"::", "::1", "::1.2.3.4", "::ffff:0:1.2.3.4", "64:ff9b::1.2.3.4", "::fffe:1.2.3.4", "::ff00:1.2.3.4", "::ff:1.2.3.4", "1::ffff:1.2.3.4", "0:1::ffff:1.2.3.4", "0:0:0:0:1:ffff:1.2.3.4", "0:0:0:1:0:ffff:1.2.3.4", "0:0:0:0:ffff:ffff:1.2.3.4", "ffff:ffff:ffff:ffff:ffff:ffff:ffff:ffff"} {
		a, err := hexad.Parse(s)
		same(t, "the error of "+s, err, error(nil))
		got, ok := hexad.Mapped(a)
		same(t, "Mapped of "+s, got, api.V4{})
		same(t, "Mapped of "+s, ok, false)
	}
	for i := range 12 {
		for c := range 256 {
			a := api.V6{10: 0xff, 11: 0xff, 12: 9, 15: 9}
			a[i] = byte(c)
			got, ok := hexad.Mapped(a)
			if want := netip.AddrFrom16(a).Is4In6(); ok != want || want != (got == api.V4{9, 0, 0, 9}) || !want && got != (api.V4{}) {
				t.Fatalf("%x: %v, %v", a, got, ok)
			}
		}
	}
}

// share tells whether two texts lie in one memory.
func share(a, b string) bool {
	if a == "" || b == "" {
		return false
	}
	from := func(s string) uintptr { return uintptr(unsafe.Pointer(unsafe.StringData(s))) }
	return from(a) < from(b)+uintptr(len(b)) && from(b) < from(a)+uintptr(len(a))
}

// P12.4
func TestAnswersAreNew(t *testing.T) {
	for _, g := range [][8]uint16{{1}, {7: 0xffff}, {1, 2, 3, 4, 5, 6, 7, 8}, {0x2001, 0xdb8, 7: 1}} {
		if textA, textB := hexad.Text(address(g)), hexad.Text(address(g)); share(textA, textB) {
			t.Errorf("%q is shared", textA)
		}
	}
	_, errA := hexad.Parse("1.2.3.4")
	_, errB := hexad.Parse("1.2.3.4")
	*errA.(*api.Fault) = api.Fault{Kind: api.ErrState, At: 99}
	same(t, "an error, when another one is written over", *errB.(*api.Fault), api.Fault{Kind: api.ErrForm})
	refuses(t, "1.2.3.4")
}

// P1 and P2: all calls end, none panics, and a second run answers what the first one did.
func TestAnyArguments(t *testing.T) {
	every := make([]byte, 256)
	for i := range every {
		every[i] = byte(i)
	}
	texts := []string{"", ":", "::", "\xff", "::\xff", string(every), strings.Repeat(":", 99999), strings.Repeat("1", 99999), strings.Repeat("1:", 99999), "::" + strings.Repeat("1.", 99999), "::" + strings.Repeat("0", 99999) + "1.2.3.4", "1::" + strings.Repeat("0", 99999)}
	run := func() []any {
		var all []any
		keep := func(answers ...any) { all = append(all, answers...) }
		for _, s := range texts {
			a, err := hexad.Parse(s)
			keep(a, err)
		}
		shapes(func(g [8]uint16) {
			a := hexad.Of(g)
			last, ok := hexad.Mapped(a)
			keep(a, hexad.Groups(a), hexad.Text(a), last, ok)
		})
		return all
	}
	same(t, "the second run", run(), run())
}
