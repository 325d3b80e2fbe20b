package report_test

import (
	"errors"
	"math"
	"reflect"
	"strings"
	"testing"

	"waybill/api"
	"waybill/fold"
	"waybill/host"
	"waybill/report"
)

const (
	team   = "ABCDE12345"
	digits = "0123456789"
)

var (
	printA = api.Print{0x01, 0xab}
	printB = api.Print{31: 0xff}

	textA = "01:AB" + strings.Repeat(":00", 30)
	textB = "00" + strings.Repeat(":00", 30) + ":FF"

	// wrongTexts are no characters' bytes.
	wrongTexts = []string{"\xff", "\x80", "a\xc0\x80", "\xe2\x82", "\xed\xa0\x80", "\xf4\x90\x80\x80"}

	// rightTexts are characters' bytes, among which are such as aren't written as they are.
	rightTexts = []string{" ", "\"", "\\", "/", "\x00\x01\x1f", "\b\f\n\r\t", "\x7f", "<&>", "é€\u2028\uffff", "𝒳", "null", `\u0041`}
)

func same(t *testing.T, what any, got, want any) {
	t.Helper()
	if !reflect.DeepEqual(got, want) {
		t.Errorf("%.300v: got %+v, want %+v", what, got, want)
	}
}

// told is an error as the chapters tell it: kind 0 is none.
type told struct {
	kind api.Errno
	at   int
}

// tells gives the error that an error is; of one that isn't a fault a kind below 0.
func tells(err error) told {
	if err == nil {
		return told{}
	}
	f, ok := err.(*api.Fault)
	if !ok || f == nil || !errors.Is(err, f.Kind) {
		return told{kind: -1}
	}
	return told{f.Kind, f.At}
}

// name and wild are patterns of hosts.
func name(s string) api.HostPattern { return api.HostPattern{Name: s} }
func wild(s string) api.HostPattern { return api.HostPattern{Wild: true, Name: s} }

// at gives a filter's host.
func at(p api.HostPattern, port int) api.FilterHost { return api.FilterHost{Pattern: p, Port: port} }

// P30.1: a port stands behind the last colon, if digits alone do; else any port is let.
func TestHost(t *testing.T) {
	for s, want := range map[string]api.FilterHost{
		"a.com":                 at(name("a.com"), -1),
		"A.com:8443":            at(name("a.com"), 8443),
		"*":                     at(wild(""), -1),
		"*:80":                  at(wild(""), 80),
		"*.B.com":               at(wild("b.com"), -1),
		"*.b.com:0":             at(wild("b.com"), 0),
		"a:1":                   at(name("a"), 1),
		"a:65535":               at(name("a"), 65535),
		"a:0000000000000065535": at(name("a"), 65535),
		"a.:00":                 at(name("a"), 0),
		"%41:9":                 at(name("a"), 9),
		"bücher.de:7":           at(name("xn--bcher-kva.de"), 7),
		"0x7f.1:9":              at(name("127.0.0.1"), 9),
		"1":                     at(name("0.0.0.1"), -1),
		"[::1]":                 at(name("[::1]"), -1),
		"[::1]:80":              at(name("[::1]"), 80),
		"[0:0::FFFF:1.2.3.4]":   at(name("[::ffff:102:304]"), -1),
		"[1:2:3:4:5:6:7:8]:08":  at(name("[1:2:3:4:5:6:7:8]"), 8),
	} {
		got, err := report.Host(s)
		same(t, s, []any{got, err}, []any{want, nil})
		again, err := report.Host(report.HostText(got))
		same(t, "Host of HostText of "+s, []any{again, err}, []any{want, nil})
	}
}

// P30.1: a port's error is told ahead of the pattern's.
func TestHostPort(t *testing.T) {
	for _, s := range []string{"a.com:65536", "a:99999999999999999999999", ":65536", "a..b:65536", "[::1]:100000", "a:b:70000", "[:070000"} {
		got, err := report.Host(s)
		same(t, s, tells(err), told{kind: api.ErrPort})
		same(t, "beside the error of "+s, got, api.FilterHost{})
		_, inner := fold.Decimal(s[strings.LastIndex(s, ":")+1:], 65535)
		same(t, "what the error of "+s+" came from", []any{errors.Unwrap(err), tells(inner)}, []any{inner, told{kind: api.ErrRange}})
	}
}

// P30.1: what isn't a port belongs to the pattern, whose error is told.
func TestHostPattern(t *testing.T) {
	for s, pattern := range map[string]string{
		"": "", ":1": "", "a..b:1": "a..b", "a:1:2": "a:1", "::1": ":", "::1:80": "::1", "[::1]a:1": "[::1]a", "[::1:80": "[::1", "[::1": "[:",
		"*.1.2.3.4:80": "*.1.2.3.4", "*.[::1]:80": "*.[::1]", "1.2.3.256:80": "1.2.3.256", "**:80": "**", "a%:80": "a%", "*.:0": "*.",
		":": ":", "a..b": "a..b", "a:": "a:", "a:1:": "a:1:", "a: 1": "a: 1", "a:1 ": "a:1 ", "a:+1": "a:+1", "a:-1": "a:-1", "a:1a": "a:1a", "a:0x1": "a:0x1", "a:١": "a:١",
		"[::1]:": "[::1]:", "[:80]": "[:80]", "[::1]:8]": "[::1]:8]", "\xff": "\xff", "a:65536 ": "a:65536 ",
	} {
		got, err := report.Host(s)
		same(t, s, tells(err), told{kind: api.ErrHost})
		same(t, "beside the error of "+s, got, api.FilterHost{})
		_, inner := host.Pattern(pattern)
		same(t, "what the error of "+s+" came from", []any{errors.Unwrap(err), tells(inner)}, []any{inner, told{kind: api.ErrHost}})
	}
}

// P30.1: the pattern, and the port, if it isn't any, be these right ones or not.
func TestHostText(t *testing.T) {
	for want, h := range map[string]api.FilterHost{
		"a.com":                    at(name("a.com"), -1),
		"a.com:0":                  at(name("a.com"), 0),
		"a.com:8443":               at(name("a.com"), 8443),
		"*":                        at(wild(""), -1),
		"*:80":                     at(wild(""), 80),
		"*.b.com:1":                at(wild("b.com"), 1),
		"[::1]":                    at(name("[::1]"), -1),
		"[::1]:65535":              at(name("[::1]"), 65535),
		"":                         at(name(""), -1),
		":-2":                      at(name(""), -2),
		"a:65536":                  at(name("a"), 65536),
		"a:-10":                    at(name("a"), -10),
		"\xff:9223372036854775807": at(name("\xff"), math.MaxInt64),
		"X:-9223372036854775808":   at(name("X"), math.MinInt64),
	} {
		same(t, h, report.HostText(h), want)
	}
}
