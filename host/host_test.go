package host_test

import (
	"errors"
	"math"
	"math/rand"
	"reflect"
	"strings"
	"testing"
	"unsafe"

	"waybill/api"
	"waybill/host"
)

func same(t *testing.T, what string, got, want any) {
	t.Helper()
	if !reflect.DeepEqual(got, want) {
		t.Errorf("%q: got %#v, want %#v", what, got, want)
	}
}

// wrong asks for the outermost fault, and for the kind and the place of the error that it came from (none, if that kind is 0).
func wrong(t *testing.T, what string, err error, kind api.Errno, at int, inner api.Errno, innerAt int) {
	t.Helper()
	var f, in *api.Fault
	if !errors.As(err, &f) || f.Kind != kind || f.At != at || !errors.Is(err, kind) {
		t.Errorf("%q: got %#v, want errno %d at %d", what, err, kind, at)
		return
	}
	if inner == 0 {
		same(t, what+" came from", f.Inner, error(nil))
		return
	}
	if !errors.As(f.Inner, &in) || in.Kind != inner || in.At != innerAt || !errors.Is(err, inner) {
		t.Errorf("%q: came from %#v, want errno %d at %d", what, f.Inner, inner, innerAt)
	}
}

func name(text string) api.Host { return api.Host{Kind: api.HostName, Text: text} }
func four(text string) api.Host { return api.Host{Kind: api.HostV4, Text: text} }
func six(text string) api.Host  { return api.Host{Kind: api.HostV6, Text: text} }

// canon asks for a text's host, and that this one's text tells it again.
func canon(t *testing.T, s string, want api.Host) {
	t.Helper()
	h, err := host.Canon(s)
	same(t, "Canon of "+s, h, want)
	same(t, "the error of "+s, err, error(nil))
	back, err := host.Canon(host.Text(want))
	same(t, "Canon of the Text of "+s, back, want)
	same(t, "the error of the Text of "+s, err, error(nil))
}

// noHost asks for the error ErrHost of Canon, and for nothing beside it.
func noHost(t *testing.T, s string, at int, inner api.Errno, innerAt int) {
	t.Helper()
	h, err := host.Canon(s)
	wrong(t, "Canon of "+s, err, api.ErrHost, at, inner, innerAt)
	same(t, "Canon of "+s+" beside an error", h, api.Host{})
}

// mostName is a name of 253 bytes, which is as many as there may be.
var mostName = strings.Repeat(strings.Repeat("a", 61)+".", 4) + "abcde"

// P13.1: names, and the chapter's example.
func TestCanonOfNames(t *testing.T) {
	for s, want := range map[string]string{
		"example.com": "example.com", "Example.COM": "example.com", "example.com.": "example.com", "a": "a", "A.": "a", "a-b.c--d": "a-b.c--d", mostName: mostName, mostName + ".": mostName,
		"EX%41mple.com.": "example.com", "%65%78": "ex", "a%2eb": "a.b", "a%2Eb%2e": "a.b", "a%2d%2Db": "a--b",
		"bücher.example": "xn--bcher-kva.example", "b%C3%BCcher.example.": "xn--bcher-kva.example", "b%c3%bcCHER.EXAMPLE": "xn--bcher-kva.example", "xn--bcher-kva.example": "xn--bcher-kva.example", "XN--BCHER-KVA": "xn--bcher-kva", "b\xc3%bccher": "xn--bcher-kva", "ü": "xn--tda",
		"1.2.3.4a": "1.2.3.4a", "1.2.3.a": "1.2.3.a", "0xg": "0xg", "1x0": "1x0", "127.0.0.1.example": "127.0.0.1.example", "0x7f.a": "0x7f.a", "1-2": "1-2", "0.0x.x": "0.0x.x", "x0": "x0", "a.00xf": "a.00xf", "1e9": "1e9",
	} {
		canon(t, s, name(want))
	}
}

// P13.1: a name that is Numeric tells an IPv4 address, or nothing.
func TestCanonOfQuads(t *testing.T) {
	for s, want := range map[string]string{
		"1.2.3.4": "1.2.3.4", "1.2.3.4.": "1.2.3.4", "0x7f.1": "127.0.0.1", "0X7F.1": "127.0.0.1", "0x7f.0.0.1": "127.0.0.1", "0177.1": "127.0.0.1", "0": "0.0.0.0", "00": "0.0.0.0", "0x": "0.0.0.0", "0X.": "0.0.0.0", "256": "0.0.1.0", "1.256": "1.0.1.0", "4294967295": "255.255.255.255", "0xffffffff": "255.255.255.255", "255.255.255.255": "255.255.255.255", "1.2.0xFf": "1.2.0.255",
		"%31.2.3.4": "1.2.3.4", "1%2e2%2E3%2e4": "1.2.3.4", "%30%78%37%46%2e%31%2e": "127.0.0.1",
	} {
		canon(t, s, four(want))
	}
	for s, want := range map[string]struct {
		kind api.Errno
		at   int
	}{
		"1.2.3.256": {api.ErrRange, 6}, "4294967296": {api.ErrRange, 0}, "256.1": {api.ErrRange, 0}, "1.16777216.": {api.ErrRange, 2}, "%32%35%36.1": {api.ErrRange, 0}, "1%2e2.3.256": {api.ErrRange, 6},
		"1.2.3.4.5": {api.ErrMany, 7}, "1.2.3.4.5.": {api.ErrMany, 7}, "a.b.c.d.0": {api.ErrMany, 7},
		"a.1": {api.ErrForm, 0}, "example.com.0x7F": {api.ErrForm, 0}, "example.0": {api.ErrForm, 0}, "1.a.2": {api.ErrForm, 2}, "08": {api.ErrForm, 1}, "1.2.3.09": {api.ErrForm, 7}, "0xg.1": {api.ErrForm, 2}, "ü.1": {api.ErrForm, 0}, "1-2.3": {api.ErrForm, 1},
	} {
		noHost(t, s, 0, want.kind, want.at)
	}
}

// P13.1: what begins with a bracket tells an IPv6 address, or nothing.
func TestCanonOfHexads(t *testing.T) {
	for s, want := range map[string]string{
		"[::]": "::", "[::1]": "::1", "[0:0:0:0:0:0:0:1]": "::1", "[::FFFF:1.2.3.4]": "::ffff:102:304", "[2001:0db8:0:0:1:0:0:1]": "2001:db8::1:0:0:1", "[1:2:3:4:5:6:7:8]": "1:2:3:4:5:6:7:8", "[FE80::A]": "fe80::a",
	} {
		canon(t, s, six(want))
	}
	for _, s := range []string{"[", "[::1", "[::1].", "[::1]:80", "[::1]a", "[::1] ", "[::1]%5D", "[%", "[%zz", "[]]a", "[::1%5d", "[\xff", "[a.b"} {
		noHost(t, s, 0, 0, 0)
	}
	for _, s := range []string{"[]", "[x]", "[[::1]]", "[::1]]", "[1.2.3.4]", "[example.com]", "[%3a:1]", "[%3A%3A]", "[::%31]", "[::1%25eth0]", "[::1%eth0]", "[ ::1]", "[::1.2.3]", "[:::]", "[\xff]"} {
		noHost(t, s, 0, api.ErrForm, 0)
	}
	for s, at := range map[string]int{"%5b::1]": 0, "::1": 0, "::": 0, "a[::1]": 1, "%5B::1%5D": 0, "]": 0, "]::1[": 0} {
		noHost(t, s, 0, api.ErrForm, at)
	}
}

// P13.1: the errors, in the promise's order.
func TestCanonErrors(t *testing.T) {
	h, err := host.Canon("")
	wrong(t, "Canon of nothing", err, api.ErrShort, 0, 0, 0)
	same(t, "Canon of nothing, beside an error", h, api.Host{})
	same(t, "whether an empty text's error is ErrHost", errors.Is(err, api.ErrHost), false)
	for s, at := range map[string]int{"%": 0, "a%": 1, "a%zz": 1, "a%4": 1, "a b%": 3, "..%4g": 2, "\xff%": 1, "1.2.3.256%": 9, "%41%4": 3, "%25%": 3, "::1%x": 3, mostName + "a%": 254} {
		noHost(t, s, at, api.ErrForm, at)
	}
	for s, want := range map[string]struct {
		kind api.Errno
		at   int
	}{
		"a..b": {api.ErrShort, 2}, ".": {api.ErrShort, 0}, "..": {api.ErrShort, 0}, ".a": {api.ErrShort, 0}, "a..": {api.ErrShort, 2}, "%2e": {api.ErrShort, 0}, "1..2": {api.ErrShort, 2},
		"a b": {api.ErrForm, 1}, "%20": {api.ErrForm, 0}, "a%20b": {api.ErrForm, 1}, "%41_": {api.ErrForm, 1}, "a.b_c": {api.ErrForm, 3}, "*.a": {api.ErrForm, 0}, "a:80": {api.ErrForm, 1}, "a@b": {api.ErrForm, 1}, "a%2fb": {api.ErrForm, 1}, "a%25b": {api.ErrForm, 1}, "a%00": {api.ErrForm, 1}, "\x00": {api.ErrForm, 0}, "÷": {api.ErrForm, 0}, "a.Ü": {api.ErrForm, 2}, "１": {api.ErrForm, 0},
		"%ff": {api.ErrUTF, 0}, "\xff": {api.ErrUTF, 0}, "a.b%c3": {api.ErrUTF, 3}, "a.\xc3b": {api.ErrUTF, 2},
		"-a": {api.ErrLabel, 0}, "a.b-": {api.ErrLabel, 2}, "a.ab--c": {api.ErrLabel, 2}, "xn--a": {api.ErrLabel, 0}, "-": {api.ErrLabel, 0}, "1.-1": {api.ErrLabel, 2},
		strings.Repeat("a", 64): {api.ErrLong, 63}, mostName + "f": {api.ErrLong, 253}, strings.Repeat("1", 64): {api.ErrLong, 63}, strings.Repeat("a.", 127) + "a": {api.ErrMany, 253}, strings.Repeat("1.", 127) + "1": {api.ErrMany, 253},
	} {
		noHost(t, s, 0, want.kind, want.at)
	}
}

// P13.2: Text is the host's; brackets stand about IPv6 addresses alone.
func TestText(t *testing.T) {
	for want, h := range map[string]api.Host{
		"example.com": name("example.com"), "xn--tda": name("xn--tda"), "1.2.3.4": four("1.2.3.4"), "[::1]": six("::1"), "[]": six(""), "": {}, "::1": name("::1"), "a": {Kind: 4, Text: "a"}, "b": {Kind: math.MinInt, Text: "b"}, "c": four("c"),
	} {
		same(t, "Text", host.Text(h), want)
	}
}

// P13.2: names are shown label by label.
func TestShown(t *testing.T) {
	for _, c := range []struct {
		h    api.Host
		want string
	}{
		{name("example.com"), "example.com"}, {name("xn--bcher-kva.example"), "bücher.example"}, {name("xn--tda"), "ü"}, {name("xn--tda.xn--bcher-kva.xn--tda"), "ü.bücher.ü"}, {name("a.xn--tda"), "a.ü"},
		{name("xn--bcher-kva.x--.example"), "bücher.x--.example"}, {name("xn--tda.xn--.xn--a.-.xn--tda"), "ü.xn--.xn--a.-.ü"}, {name("xn--TDA.Xn--tda.xn--tda"), "xn--TDA.Xn--tda.ü"}, {name("xn--tda..xn--tda."), "ü..ü."}, {name("\xff.xn--tda"), "\xff.ü"}, {name("ü.xn--tda"), "ü.ü"}, {name(strings.Repeat("a", 64) + ".xn--tda"), strings.Repeat("a", 64) + ".ü"},
		{name(""), ""}, {name("."), "."}, {name("1.2.3.4"), "1.2.3.4"}, {name("::1"), "::1"},
		{four("1.2.3.4"), "1.2.3.4"}, {four("xn--tda"), "xn--tda"}, {six("::1"), "[::1]"}, {six("xn--tda"), "[xn--tda]"}, {api.Host{}, ""}, {api.Host{Text: "xn--tda"}, "xn--tda"}, {api.Host{Kind: 4, Text: "xn--tda"}, "xn--tda"}, {api.Host{Kind: -1, Text: "xn--tda"}, "xn--tda"},
	} {
		same(t, "Shown of "+c.h.Text, host.Shown(c.h), c.want)
	}
}

// P13.2: each name's Shown tells the name again.
func TestShownAndBack(t *testing.T) {
	for _, s := range []string{"bücher.example", "ü.ß.a-b", "他们为什么不说中文.xn--tda", mostName} {
		h, err := host.Canon(s)
		same(t, "the error of "+s, err, error(nil))
		canon(t, host.Shown(h), h)
	}
}

// pattern asks for a text's pattern, and that this one's text tells it again.
func pattern(t *testing.T, s string, want api.HostPattern, text string) {
	t.Helper()
	p, err := host.Pattern(s)
	same(t, "Pattern of "+s, p, want)
	same(t, "the error of "+s, err, error(nil))
	same(t, "PatternText of "+s, host.PatternText(want), text)
	back, err := host.Pattern(text)
	same(t, "Pattern of "+text, back, want)
	same(t, "the error of "+text, err, error(nil))
}

// P13.3
func TestPattern(t *testing.T) {
	pattern(t, "*", api.HostPattern{Wild: true}, "*")
	for s, want := range map[string]string{"example.com": "example.com", "EX%41mple.Com.": "example.com", "bücher": "xn--bcher-kva", "a": "a", "1.2.3.4": "1.2.3.4", "0x7f.1": "127.0.0.1", "256.": "0.0.1.0", "[::1]": "[::1]", "[0::FFFF:1.2.3.4]": "[::ffff:102:304]", mostName: mostName} {
		pattern(t, s, api.HostPattern{Name: want}, want)
	}
	for s, want := range map[string]string{"*.example.com": "example.com", "*.EX%41mple.Com.": "example.com", "*.bücher": "xn--bcher-kva", "*.a": "a", "*.1.2.3.4a": "1.2.3.4a", "*." + mostName: mostName} {
		pattern(t, s, api.HostPattern{Wild: true, Name: want}, "*."+want)
	}
}

// P13.3: each error is ErrHost at 0, whatever it came from.
func TestPatternErrors(t *testing.T) {
	for s, want := range map[string]struct {
		kind api.Errno
		at   int
	}{
		"": {api.ErrShort, 0}, "*.": {api.ErrShort, 0},
		"**": {api.ErrHost, 0}, "a*": {api.ErrHost, 0}, "*a": {api.ErrHost, 0}, "*.*": {api.ErrHost, 0}, "*.*.a": {api.ErrHost, 0}, "a.*": {api.ErrHost, 0}, "*..": {api.ErrHost, 0}, "*..a": {api.ErrHost, 0}, "%2a": {api.ErrHost, 0}, "%2a.a": {api.ErrHost, 0}, "*%2ea": {api.ErrHost, 0}, " *": {api.ErrHost, 0}, "* ": {api.ErrHost, 0}, "*\x00": {api.ErrHost, 0}, ".": {api.ErrHost, 0}, ".a": {api.ErrHost, 0}, "\xff": {api.ErrHost, 0}, "*.a b": {api.ErrHost, 0}, "[::1": {api.ErrHost, 0}, "*.[::1": {api.ErrHost, 0}, "*.a.1": {api.ErrHost, 0}, "1.2.3.256": {api.ErrHost, 0}, "*:80": {api.ErrHost, 0}, "a:80": {api.ErrHost, 0}, "*." + mostName + "f": {api.ErrHost, 0},
		"abc%": {api.ErrHost, 3}, "*.abc%4g": {api.ErrHost, 3},
	} {
		p, err := host.Pattern(s)
		wrong(t, "Pattern of "+s, err, api.ErrHost, 0, want.kind, want.at)
		same(t, "Pattern of "+s+" beside an error", p, api.HostPattern{})
	}
	for _, s := range []string{"*.1.2.3.4", "*.[::1]", "*.[::]", "*.0x7f.1", "*.0", "*.1.", "*.%31"} {
		p, err := host.Pattern(s)
		wrong(t, "Pattern of "+s, err, api.ErrHost, 0, 0, 0)
		same(t, "Pattern of "+s+" beside an error", p, api.HostPattern{})
	}
	_, err := host.Pattern("*.a.b_")
	for _, kind := range []api.Errno{api.ErrHost, api.ErrForm} {
		same(t, "whether it is of all kinds that it came from", errors.Is(err, kind), true)
	}
}

// P13.3: of patterns that Pattern never gives, too.
func TestPatternText(t *testing.T) {
	for want, p := range map[string]api.HostPattern{"": {}, "*": {Wild: true}, "*.*": {Wild: true, Name: "*"}, "*.1.2.3.4": {Wild: true, Name: "1.2.3.4"}, "A b": {Name: "A b"}, "*.\xff": {Wild: true, Name: "\xff"}} {
		same(t, "PatternText", host.PatternText(p), want)
	}
}

func read(t *testing.T, s string) api.HostPattern {
	t.Helper()
	p, err := host.Pattern(s)
	same(t, "the error of "+s, err, error(nil))
	return p
}

// P13.4, and the chapter's example.
func TestMatch(t *testing.T) {
	for _, c := range []struct {
		pattern string
		h       api.Host
		want    bool
	}{
		{"*.example.com", name("www.example.com"), true}, {"*.example.com", name("example.com"), false}, {"*.example.com", name("a.b.example.com"), true}, {"*.example.com", name("aexample.com"), false}, {"*.example.com", name("example.com.a"), false}, {"*.example.com", name("com"), false}, {"*.example.com", name("www.example.org"), false}, {"*.com", name("a.com"), true}, {"*.com", name("com"), false}, {"*.example.com", name(".example.com"), false}, {"*.example.com", name("*.example.com"), true},
		{"example.com", name("example.com"), true}, {"example.com", name("www.example.com"), false}, {"example.com", name("com"), false}, {"example.com", name("Example.com"), false}, {"example.com", name(""), false},
		{"*", name("a"), true}, {"*", name("a.b.c"), true}, {"*", name(""), true}, {"*", four("1.2.3.4"), false}, {"*", six("::1"), false}, {"*", api.Host{}, false}, {"*", api.Host{Kind: 4, Text: "a"}, false},
		{"1.2.3.4", four("1.2.3.4"), true}, {"1.2.3.4", four("1.2.3.5"), false}, {"1.2.3.4", name("1.2.3.4"), true}, {"1.2.3.4", six("::102:304"), false}, {"[::1]", six("::1"), true}, {"[::1]", six("::2"), false}, {"[::1]", name("::1"), false}, {"[::1]", name("[::1]"), true}, {"[::102:304]", four("1.2.3.4"), false},
		{"*.a", four("b.a"), false}, {"*.a", six("b.a"), false}, {"*.a", api.Host{Text: "b.a"}, false},
	} {
		same(t, c.pattern+" and "+c.h.Text, host.Match(read(t, c.pattern), c.h), c.want)
	}
	for _, c := range []struct {
		p    api.HostPattern
		h    api.Host
		want bool
	}{
		{api.HostPattern{}, api.Host{}, true}, {api.HostPattern{}, name(""), true}, {api.HostPattern{}, name("a"), false}, {api.HostPattern{}, six(""), false}, {api.HostPattern{Name: "::1"}, six("::1"), false}, {api.HostPattern{Name: "*"}, name("a"), false}, {api.HostPattern{Wild: true, Name: "3.4"}, name("1.2.3.4"), true}, {api.HostPattern{Wild: true, Name: "3.4"}, four("1.2.3.4"), false}, {api.HostPattern{Wild: true, Name: "[::1]"}, six("::1"), false},
	} {
		same(t, host.PatternText(c.p)+" and "+c.h.Text, host.Match(c.p, c.h), c.want)
	}
}

// P13.4
func TestNarrower(t *testing.T) {
	for _, c := range []struct {
		a, b string
		want bool
	}{
		{"a.com", "a.com", true}, {"a.com", "b.com", false}, {"*.com", "com", false}, {"*.com", "a.com", false}, {"com", "*.com", false}, {"*", "a", false}, {"1.2.3.4", "1.2.3.4", true}, {"[::1]", "[::1]", true}, {"[::1]", "[::2]", false}, {"*.a", "a", false},
		{"a.com", "*", true}, {"*.com", "*", true}, {"*", "*", true}, {"1.2.3.4", "*", false}, {"[::1]", "*", false}, {"1.2.3.4a", "*", true}, {"a1", "*", true},
		{"a.com", "*.com", true}, {"a.b.com", "*.com", true}, {"acom", "*.com", false}, {"*.com", "*.com", true}, {"*.a.com", "*.com", true}, {"*.com", "*.a.com", false}, {"a.com", "*.a.com", false}, {"*.acom", "*.com", false}, {"*", "*.com", false}, {"1.2.3.4", "*.com", false}, {"[::1]", "*.com", false},
	} {
		same(t, c.a+" within "+c.b, host.Narrower(read(t, c.a), read(t, c.b)), c.want)
	}
	all := api.HostPattern{Wild: true}
	for _, c := range []struct {
		a, b api.HostPattern
		want bool
	}{
		{api.HostPattern{}, api.HostPattern{}, true}, {api.HostPattern{}, all, true}, {all, api.HostPattern{}, false}, {api.HostPattern{Name: "0x7F"}, all, false}, {api.HostPattern{Name: "a.0"}, all, false}, {api.HostPattern{Name: "1."}, all, false}, {api.HostPattern{Name: "["}, all, false}, {api.HostPattern{Name: "a["}, all, true}, {api.HostPattern{Name: "::1"}, all, true},
		{api.HostPattern{Wild: true, Name: "1.2.3.4"}, all, true}, {api.HostPattern{Wild: true, Name: "[::1]"}, all, true}, {api.HostPattern{}, api.HostPattern{Wild: true, Name: "a"}, false}, {api.HostPattern{Name: "1.2.3.4"}, api.HostPattern{Wild: true, Name: "3.4"}, true}, {api.HostPattern{Name: ".a"}, api.HostPattern{Wild: true, Name: "a"}, false},
	} {
		same(t, host.PatternText(c.a)+" within "+host.PatternText(c.b), host.Narrower(c.a, c.b), c.want)
	}
}

// witnesses are hosts that a pattern means; of a wild one such as no other pattern of the test speaks of, so that they stand for all.
func witnesses(t *testing.T, p string) []api.Host {
	t.Helper()
	texts := []string{p}
	if rest, wild := strings.CutPrefix(p, "*"); wild {
		texts = []string{"q" + rest, "q.q" + rest, "r" + rest}
	}
	var list []api.Host
	for _, s := range texts {
		h, err := host.Canon(s)
		same(t, "the error of "+s, err, error(nil))
		list = append(list, h)
	}
	return list
}

// P13.4: a pattern is narrower just if all hosts that it means are meant by the other one.
func TestNarrowerMeansMatch(t *testing.T) {
	patterns := []string{"*", "*.a", "*.b", "*.a.b", "*.b.a", "*.a.b.a", "*.aa", "a", "b", "a.b", "b.a", "a.b.a", "b.a.b", "aa", "a.aa", "aa.a", "1.2.3.4", "4.3.2.1", "3.4.a", "*.3.4.a", "[::1]", "[::2]", "[::102:304]", "xn--tda", "*.xn--tda", "a.xn--tda"}
	for _, a := range patterns {
		for _, b := range patterns {
			want := true
			for _, h := range witnesses(t, a) {
				same(t, a+" and "+h.Text, host.Match(read(t, a), h), true)
				want = want && host.Match(read(t, b), h)
			}
			same(t, a+" within "+b, host.Narrower(read(t, a), read(t, b)), want)
		}
	}
}

// share tells whether two texts lie in one memory.
func share(a, b string) bool {
	if a == "" || b == "" {
		return false
	}
	from := func(s string) uintptr { return uintptr(unsafe.Pointer(unsafe.StringData(s))) }
	return from(a) < from(b)+uintptr(len(b)) && from(b) < from(a)+uintptr(len(a))
}

// P13.5
func TestAnswersAreNew(t *testing.T) {
	for _, s := range []string{"example.com", "a", "xn--tda.b", "1.2.3.4", "[::1]"} {
		h, _ := host.Canon(s)
		p, _ := host.Pattern(s)
		texts := []string{s, h.Text, p.Name, host.Text(h), host.Text(h), host.Shown(h), host.Shown(h), host.PatternText(p), host.PatternText(p)}
		for i := range texts {
			for j := range i {
				if share(texts[i], texts[j]) {
					t.Errorf("%q: %d and %d share", s, i, j)
				}
			}
		}
	}
	wild := api.HostPattern{Wild: true, Name: "example.com"}
	if share(host.PatternText(wild), wild.Name) {
		t.Error("PatternText shares")
	}
	for _, s := range []string{"", "[", "[]", "%", "a_", "a.1"} {
		_, errA := host.Canon(s)
		want := *errA.(*api.Fault)
		*errA.(*api.Fault) = api.Fault{Kind: api.ErrState, At: 99}
		_, errB := host.Canon(s)
		same(t, "an error, when another one is written over", *errB.(*api.Fault), want)
	}
}

// byChance gives texts of what hosts and patterns are of.
func byChance(count int) []string {
	parts := []string{"a", "B", "com", "1", "0x7f", "256", ".", ".", ".", "-", "xn--tda", "xn--", "ü", "%", "%41", "%2e", "%ff", "[", "]", "::", ":1", "*", "*.", "\xff", "\x00", " ", "@", strings.Repeat("a", 63)}
	r := rand.New(rand.NewSource(131))
	var list []string
	for range count {
		var text strings.Builder
		for range r.Intn(7) {
			text.WriteString(parts[r.Intn(len(parts))])
		}
		list = append(list, text.String())
	}
	return list
}

// P13.2 and P13.3: what Canon and Pattern give is told again by its text.
func TestThereAndBack(t *testing.T) {
	hosts, patterns := 0, 0
	for _, s := range byChance(100000) {
		if h, err := host.Canon(s); err == nil {
			hosts++
			back, err := host.Canon(host.Text(h))
			same(t, "Canon of the Text of "+s, back, h)
			same(t, "the error of the Text of "+s, err, error(nil))
		}
		if p, err := host.Pattern(s); err == nil {
			patterns++
			back, err := host.Pattern(host.PatternText(p))
			same(t, "Pattern of the PatternText of "+s, back, p)
			same(t, "the error of the PatternText of "+s, err, error(nil))
		}
		if t.Failed() {
			return
		}
	}
	if hosts < 1000 || patterns < hosts {
		t.Errorf("only %d hosts and %d patterns", hosts, patterns)
	}
}

// P1 and P2: all calls end, none panics, and a second run answers what the first one did.
func TestAnyArguments(t *testing.T) {
	texts := append(byChance(300), "", "[", "]", "*", "*.", "\xff", strings.Repeat("a", 99999), strings.Repeat("%", 99999), strings.Repeat("a.", 99999), strings.Repeat("ü", 99999), "["+strings.Repeat(":", 99999)+"]", strings.Repeat("%31", 99999), strings.Repeat("1", 63))
	run := func() []any {
		var all []any
		keep := func(answers ...any) { all = append(all, answers...) }
		for i, s := range texts {
			h, err := host.Canon(s)
			keep(h, err)
			p, err := host.Pattern(s)
			keep(p, err)
			for _, kind := range []int{math.MinInt, -1, 0, 1, 2, 3, 4, math.MaxInt} {
				h = api.Host{Kind: kind, Text: s}
				keep(host.Text(h), host.Shown(h))
				for _, wild := range []bool{false, true} {
					a, b := api.HostPattern{Wild: wild, Name: s}, api.HostPattern{Wild: kind%2 == 0, Name: texts[i/2]}
					keep(host.PatternText(a), host.Match(a, h), host.Match(b, h), host.Narrower(a, b), host.Narrower(b, a))
				}
			}
		}
		return all
	}
	same(t, "the second run", run(), run())
}
