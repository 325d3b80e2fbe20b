package url_test

import (
	"errors"
	"math"
	"math/rand"
	"reflect"
	"strconv"
	"strings"
	"testing"
	"unsafe"

	"waybill/api"
	"waybill/url"
)

func same(t *testing.T, what string, got, want any) {
	t.Helper()
	if !reflect.DeepEqual(got, want) {
		t.Errorf("%q: got %#v, want %#v", what, got, want)
	}
}

// wrong asks for the outermost fault, and for the kind and the place of the error that it came from (none, if that kind is 0).
func wrong(t *testing.T, what string, err error, kind api.Errno, at int, inner api.Errno, innerAt int) {
	t.Helper()
	var f, in *api.Fault
	if !errors.As(err, &f) || f.Kind != kind || f.At != at || !errors.Is(err, kind) {
		t.Errorf("%q: got %#v, want errno %d at %d", what, err, kind, at)
		return
	}
	if inner == 0 {
		same(t, what+" came from", f.Inner, error(nil))
		return
	}
	if !errors.As(f.Inner, &in) || in.Kind != inner || in.At != innerAt || !errors.Is(err, inner) {
		t.Errorf("%q: came from %#v, want errno %d at %d", what, f.Inner, inner, innerAt)
	}
}

func name(text string) api.Host { return api.Host{Kind: api.HostName, Text: text} }
func four(text string) api.Host { return api.Host{Kind: api.HostV4, Text: text} }
func six(text string) api.Host  { return api.Host{Kind: api.HostV6, Text: text} }

// parses asks for a text's URL.
func parses(t *testing.T, s string, want api.URL) {
	t.Helper()
	u, err := url.Parse(s)
	same(t, "Parse of "+s, u, want)
	same(t, "the error of "+s, err, error(nil))
}

// refuses asks for the error of Parse, and for nothing beside it.
func refuses(t *testing.T, s string, kind api.Errno, at int, inner api.Errno, innerAt int) {
	t.Helper()
	u, err := url.Parse(s)
	wrong(t, "Parse of "+s, err, kind, at, inner, innerAt)
	same(t, "Parse of "+s+" beside an error", u, api.URL{})
}

// read gives a right text's URL.
func read(t *testing.T, s string) api.URL {
	t.Helper()
	u, err := url.Parse(s)
	same(t, "the error of "+s, err, error(nil))
	return u
}

// P14.1
func TestScheme(t *testing.T) {
	longest := strings.Repeat("a", 64)
	for s, want := range map[string]string{"https:": "https", "HTTP://x": "http", "a:": "a", "Z:b:c": "z", "A+.-9:": "a+.-9", "app:x y": "app", "a:\xff": "a", longest + ":": longest, "http:/": "http"} {
		got, err := url.Scheme(s)
		same(t, "Scheme of "+s, got, want)
		same(t, "the error of "+s, err, error(nil))
	}
	for s, want := range map[string]struct {
		at      int
		inner   api.Errno
		innerAt int
	}{
		"": {0, api.ErrShort, 0}, ":": {0, api.ErrShort, 0}, ":a": {0, api.ErrShort, 0}, "1a:": {0, api.ErrForm, 0}, "+:": {0, api.ErrForm, 0}, "a_b:": {1, api.ErrForm, 1}, "a b": {1, api.ErrForm, 1}, "a/b:c": {1, api.ErrForm, 1}, "//x:80": {0, api.ErrForm, 0}, "ab%41:": {2, api.ErrForm, 2}, "aü:": {1, api.ErrForm, 1}, "ab\x00": {2, api.ErrForm, 2}, "\xff": {0, api.ErrForm, 0},
		longest + "a:": {64, api.ErrLong, 64}, longest + "_": {64, api.ErrLong, 64},
		"abc": {3, 0, 0}, "a": {1, 0, 0}, "https": {5, 0, 0}, longest: {64, 0, 0},
	} {
		got, err := url.Scheme(s)
		wrong(t, "Scheme of "+s, err, api.ErrScheme, want.at, want.inner, want.innerAt)
		same(t, "Scheme of "+s+" beside an error", got, "")
	}
	for s, want := range map[string]bool{"http": true, "https": true, "": false, "HTTP": false, "Https": false, "httpss": false, "htt": false, "http:": false, "ftp": false, " http": false} {
		same(t, "Web of "+s, url.Web(s), want)
	}
}

// P14.2: what is asked of the whole text comes ahead of all else.
func TestParseWhole(t *testing.T) {
	for _, s := range []string{strings.Repeat("a", 8193), "x:" + strings.Repeat("a", 8191), strings.Repeat("\xff", 8193), strings.Repeat(" ", 9999), "https://x/" + strings.Repeat("a", 8183), "https://x/" + strings.Repeat("%", 99999)} {
		refuses(t, s, api.ErrLong, 8192, 0, 0)
	}
	parses(t, "x:"+strings.Repeat("a", 8190), api.URL{Scheme: "x", Port: -1, Path: strings.Repeat("a", 8190)})
	parses(t, "https://x/"+strings.Repeat("%41", 2727)+"b", api.URL{Scheme: "https", Host: name("x"), Port: 443, Path: "/" + strings.Repeat("A", 2727) + "b"})
	for s, at := range map[string]int{"\xff": 0, "https://x/\xff": 10, " \xff": 1, "1a: \xc3": 4, "https://u@x/\xc0\x80": 12, "x:ü\xed\xa0\x80": 4, "x:\x00\x80": 3, strings.Repeat("a", 8191) + "\xc3": 8191} {
		refuses(t, s, api.ErrUTF, at, 0, 0)
	}
	for s, at := range map[string]int{"https://a b/": 9, " https://x/": 0, "https://x/ ": 10, "1a: ": 3, " ": 0, "\x00": 0, "https:\n": 6, "ü\x7f": 2, "https://u@x/\t": 12, "https://x/#\r": 11, "x:%\x1f": 3, "x:\x7f ": 2, strings.Repeat("a", 8191) + " ": 8191} {
		refuses(t, s, api.ErrForm, at, 0, 0)
	}
	for c := range 128 {
		s := "x:" + string(rune(c))
		if c <= 32 || c == 127 {
			refuses(t, s, api.ErrForm, 2, 0, 0)
			refuses(t, s[2:]+"%", api.ErrForm, 0, 0, 0)
		} else if !strings.ContainsRune("%?#", rune(c)) {
			parses(t, s, api.URL{Scheme: "x", Port: -1, Path: s[2:]})
		}
	}
	parses(t, "x:ü\u0080\u00a0\u2028\ufeff\U0010ffff", api.URL{Scheme: "x", Port: -1, Path: "ü\u0080\u00a0\u2028\ufeff\U0010ffff"})
}

// P14.2: errors of single parts.
func TestParseErrors(t *testing.T) {
	type fault struct {
		kind    api.Errno
		at      int
		inner   api.Errno
		innerAt int
	}
	for s, want := range map[string]fault{
		"": {api.ErrScheme, 0, api.ErrShort, 0}, "abc": {api.ErrScheme, 3, 0, 0}, "1a:": {api.ErrScheme, 0, api.ErrForm, 0}, ":": {api.ErrScheme, 0, api.ErrShort, 0}, "ab/c:": {api.ErrScheme, 2, api.ErrForm, 2}, "//u@x:99999/%": {api.ErrScheme, 0, api.ErrForm, 0}, strings.Repeat("a", 65) + ":": {api.ErrScheme, 64, api.ErrLong, 64},
		"https:": {api.ErrHost, 6, 0, 0}, "https:x": {api.ErrHost, 6, 0, 0}, "http:/x": {api.ErrHost, 5, 0, 0}, "HTTP:?": {api.ErrHost, 5, 0, 0}, "https:#%": {api.ErrHost, 6, 0, 0}, "http:/%2f": {api.ErrHost, 5, 0, 0},
		"https://u@x/": {api.ErrUser, 9, 0, 0}, "https://u:p@x/": {api.ErrUser, 11, 0, 0}, "https://@": {api.ErrUser, 8, 0, 0}, "https://a@b@c/": {api.ErrUser, 9, 0, 0}, "https://x:8@/": {api.ErrUser, 11, 0, 0}, "https://[@]:x/%": {api.ErrUser, 9, 0, 0}, "app://@": {api.ErrUser, 6, 0, 0}, "app://x@?": {api.ErrUser, 7, 0, 0}, "https://x%@": {api.ErrUser, 10, 0, 0},
		"https://": {api.ErrHost, 8, api.ErrShort, 0}, "http:///x": {api.ErrHost, 7, api.ErrShort, 0}, "https://:80/": {api.ErrHost, 8, api.ErrShort, 0}, "https://?x@": {api.ErrHost, 8, api.ErrShort, 0}, "https://a..b/": {api.ErrHost, 8, api.ErrHost, 0}, "https://abc%4g/": {api.ErrHost, 8, api.ErrHost, 3}, "https://[::1/": {api.ErrHost, 8, api.ErrHost, 0}, "https://[::1]a:80": {api.ErrHost, 8, api.ErrHost, 0}, "https://::1/": {api.ErrHost, 8, api.ErrHost, 0}, "https://1.2.3.256": {api.ErrHost, 8, api.ErrHost, 0}, "https://a:b]:80x": {api.ErrHost, 8, api.ErrHost, 0}, "https://x:80]": {api.ErrHost, 8, api.ErrHost, 0}, "https://a:80:90/": {api.ErrHost, 8, api.ErrHost, 0}, "https://a_b:x/": {api.ErrHost, 8, api.ErrHost, 0}, "app://a_b": {api.ErrHost, 6, api.ErrHost, 0}, "app://%": {api.ErrHost, 6, api.ErrHost, 0}, "app://::": {api.ErrHost, 6, api.ErrHost, 0}, "https://x\\y/": {api.ErrHost, 8, api.ErrHost, 0}, "https://x%2fy/": {api.ErrHost, 8, api.ErrHost, 0}, "https://u%40x/": {api.ErrHost, 8, api.ErrHost, 0}, "https://x%3a80/": {api.ErrHost, 8, api.ErrHost, 0},
		"https://x:8a/": {api.ErrPort, 10, api.ErrForm, 1}, "https://x:99999/": {api.ErrPort, 10, api.ErrRange, 0}, "https://x:65536": {api.ErrPort, 10, api.ErrRange, 0}, "https://x:18446744073709551696": {api.ErrPort, 10, api.ErrRange, 0}, "https://x:-1/": {api.ErrPort, 10, api.ErrForm, 0}, "https://x:+80/": {api.ErrPort, 10, api.ErrForm, 0}, "https://[::1]:x/": {api.ErrPort, 14, api.ErrForm, 0}, "https://x:%38/": {api.ErrPort, 10, api.ErrForm, 0}, "https://x:８/%": {api.ErrPort, 10, api.ErrForm, 0}, "app://:x": {api.ErrPort, 7, api.ErrForm, 0}, "app://:65536/%": {api.ErrPort, 7, api.ErrRange, 0}, "app://xyz:1x": {api.ErrPort, 10, api.ErrForm, 1},
		"https://x/%4": {api.ErrForm, 10, api.ErrForm, 1}, "https://x/?%": {api.ErrForm, 11, api.ErrForm, 0}, "https://x/#a%zz": {api.ErrForm, 12, api.ErrForm, 1}, "https://x/a%4?1": {api.ErrForm, 11, api.ErrForm, 2}, "https://x?%4#1": {api.ErrForm, 10, api.ErrForm, 0}, "https://x/%#%": {api.ErrForm, 10, api.ErrForm, 1}, "https://x/?%41%#%": {api.ErrForm, 14, api.ErrForm, 3}, "app:%": {api.ErrForm, 4, api.ErrForm, 0}, "app:a%g0?%": {api.ErrForm, 5, api.ErrForm, 1}, "app:?%": {api.ErrForm, 5, api.ErrForm, 0}, "app:#%": {api.ErrForm, 5, api.ErrForm, 0}, "app:##%": {api.ErrForm, 6, api.ErrForm, 1},
	} {
		refuses(t, s, want.kind, want.at, want.inner, want.innerAt)
	}
	_, err := url.Parse("https://a..b/")
	for _, kind := range []api.Errno{api.ErrHost, api.ErrShort} {
		same(t, "whether it is of all kinds that it came from", errors.Is(err, kind), true)
	}
}

// P14.3, and the chapter's example.
func TestParse(t *testing.T) {
	for s, want := range map[string]api.URL{
		"HTTPS://Example.com:443/%7ea?x#": {Scheme: "https", Host: name("example.com"), Port: 443, Path: "/~a", Query: "x", HasQuery: true, HasFrag: true},
		"https://x":                       {Scheme: "https", Host: name("x"), Port: 443, Path: "/"},
		"http://x?":                       {Scheme: "http", Host: name("x"), Port: 80, Path: "/", HasQuery: true},
		"http://x#":                       {Scheme: "http", Host: name("x"), Port: 80, Path: "/", HasFrag: true},
		"http://x:?#":                     {Scheme: "http", Host: name("x"), Port: 80, Path: "/", HasQuery: true, HasFrag: true},
		"http://x:443//a/../b/./":         {Scheme: "http", Host: name("x"), Port: 443, Path: "//a/../b/./"},
		"http://x:0":                      {Scheme: "http", Host: name("x"), Port: 0, Path: "/"},
		"http://x:65535":                  {Scheme: "http", Host: name("x"), Port: 65535, Path: "/"},
		"http://x:000000000000000000080":  {Scheme: "http", Host: name("x"), Port: 80, Path: "/"},
		"http://0x7f.1.:8080/":            {Scheme: "http", Host: four("127.0.0.1"), Port: 8080, Path: "/"},
		"http://[::FFFF:1.2.3.4]":         {Scheme: "http", Host: six("::ffff:102:304"), Port: 80, Path: "/"},
		"http://[::1]:81?":                {Scheme: "http", Host: six("::1"), Port: 81, Path: "/", HasQuery: true},
		"http://[::1]:/":                  {Scheme: "http", Host: six("::1"), Port: 80, Path: "/"},
		"http://B%C3%BCcher.":             {Scheme: "http", Host: name("xn--bcher-kva"), Port: 80, Path: "/"},
		"http://x/%c3%a9%2F%3f%23%25é":    {Scheme: "http", Host: name("x"), Port: 80, Path: "/%C3%A9%2F%3F%23%25é"},
		"http://x/%41?%42=%c3#%43%2e":     {Scheme: "http", Host: name("x"), Port: 80, Path: "/A", Query: "B=%C3", HasQuery: true, Fragment: "C.", HasFrag: true},
		"http://x?a?b/c:@//d#e#f?g":       {Scheme: "http", Host: name("x"), Port: 80, Path: "/", Query: "a?b/c:@//d", HasQuery: true, Fragment: "e#f?g", HasFrag: true},
		"http://x/a:b@c[]{}|\\^\"<>`'":    {Scheme: "http", Host: name("x"), Port: 80, Path: "/a:b@c[]{}|\\^\"<>`'"},
		"http://x#//u@y:z/?":              {Scheme: "http", Host: name("x"), Port: 80, Path: "/", Fragment: "//u@y:z/?", HasFrag: true},

		"app:":                   {Scheme: "app", Port: -1},
		"A+.-9:":                 {Scheme: "a+.-9", Port: -1},
		"app:x/y":                {Scheme: "app", Port: -1, Path: "x/y"},
		"mailto:a@b:c":           {Scheme: "mailto", Port: -1, Path: "a@b:c"},
		"app:/x":                 {Scheme: "app", Port: -1, Path: "/x"},
		"app:?":                  {Scheme: "app", Port: -1, HasQuery: true},
		"app:#?":                 {Scheme: "app", Port: -1, Fragment: "?", HasFrag: true},
		"app://":                 {Scheme: "app", Port: -1},
		"app://:":                {Scheme: "app", Port: -1},
		"app://:80/":             {Scheme: "app", Port: 80, Path: "/"},
		"app:///p":               {Scheme: "app", Port: -1, Path: "/p"},
		"app:////p":              {Scheme: "app", Port: -1, Path: "//p"},
		"App://Host":             {Scheme: "app", Host: name("host"), Port: -1},
		"App://Host:/P%70":       {Scheme: "app", Host: name("host"), Port: -1, Path: "/Pp"},
		"app://host:443?q#f":     {Scheme: "app", Host: name("host"), Port: 443, Query: "q", HasQuery: true, Fragment: "f", HasFrag: true},
		"app://[::1]:0":          {Scheme: "app", Host: six("::1"), Port: 0},
		"app://256":              {Scheme: "app", Host: four("0.0.1.0"), Port: -1},
		"app:a://b":              {Scheme: "app", Port: -1, Path: "a://b"},
		"httpss://x":             {Scheme: "httpss", Host: name("x"), Port: -1},
		"ftp://x:21/%7E":         {Scheme: "ftp", Host: name("x"), Port: 21, Path: "/~"},
		"x:ü%C3%BC?ü%c3%bc#ü%61": {Scheme: "x", Port: -1, Path: "ü%C3%BC", Query: "ü%C3%BC", HasQuery: true, Fragment: "üa", HasFrag: true},
	} {
		parses(t, s, want)
	}
}

// P14.4
func TestText(t *testing.T) {
	for s, want := range map[string]string{
		"HTTPS://Example.com:443/%7ea?x#": "https://example.com/~a?x#", "https://x": "https://x/", "https://x:8443?": "https://x:8443/?", "https://x:80": "https://x:80/", "http://x:80": "http://x/", "http://x:443": "http://x:443/", "http://x:0": "http://x:0/", "https://[::1]:443/": "https://[::1]/", "https://[::1]:1": "https://[::1]:1/", "http://0x7f.1/": "http://127.0.0.1/", "http://bücher/ü": "http://xn--bcher-kva/ü", "http://x#?": "http://x/#?", "http://x?#": "http://x/?#", "http://x//a": "http://x//a",
		"App://Host/P": "app://host/P", "app://h:443": "app://h:443", "app://h:": "app://h", "app:x/y": "app:x/y", "mailto:a@b": "mailto:a@b", "app://:80/": "app:/", "app:///x": "app:/x", "app://": "app:", "app:////x": "app://x", "app:?#": "app:?#",
	} {
		same(t, "Text of "+s, url.Text(read(t, s)), want)
	}
	for want, u := range map[string]api.URL{
		":": {}, "http://": {Scheme: "http", Port: 80}, "http://:0": {Scheme: "http"}, "https://:80": {Scheme: "https", Port: 80}, "https://x:443": {Scheme: "https", Host: name("x:443"), Port: -1}, "HTTP:p": {Scheme: "HTTP", Path: "p", Port: 80},
		"x:": {Scheme: "x", Port: 5}, "x://:5": {Scheme: "x", Host: name(""), Port: 5}, "x://h": {Scheme: "x", Host: name("h"), Port: math.MinInt}, "x://h:9223372036854775807": {Scheme: "x", Host: name("h"), Port: math.MaxInt}, "x://[]:70000": {Scheme: "x", Host: six(""), Port: 70000}, "x://a:1": {Scheme: "x", Host: api.Host{Text: "a"}, Port: 1},
		"x:p": {Scheme: "x", Path: "p", Query: "q", Fragment: "f"}, "x:p#f": {Scheme: "x", Path: "p", Query: "q", Fragment: "f", HasFrag: true}, "x:p?q": {Scheme: "x", Path: "p", Query: "q", Fragment: "f", HasQuery: true}, "y:%zz\xff": {Scheme: "y", Path: "%zz\xff"},
	} {
		same(t, "Text", url.Text(u), want)
	}
}

// P14.4
func TestOrigin(t *testing.T) {
	for s, want := range map[string]string{
		"HTTPS://Example.com:443/%7ea?x#": "https://example.com", "https://x:80/": "https://x:80", "http://x:80/": "http://x", "http://x:0?q": "http://x:0", "http://[::1]:81": "http://[::1]:81", "http://1.2.3.4#f": "http://1.2.3.4", "http://bücher": "http://xn--bcher-kva",
		"app://x:80/": "", "app:x": "", "ftp://x": "", "httpss://x": "",
	} {
		same(t, "Origin of "+s, url.Origin(read(t, s)), want)
	}
	same(t, "Origin", url.Origin(api.URL{}), "")
	same(t, "Origin", url.Origin(api.URL{Scheme: "HTTP", Host: name("x"), Port: 80}), "")
	same(t, "Origin", url.Origin(api.URL{Scheme: "http", Host: name("x"), Port: -9}), "http://x")
	same(t, "Origin", url.Origin(api.URL{Scheme: "http", Host: six("y"), Port: math.MaxInt}), "http://[y]:9223372036854775807")
}

// P14.4
func TestEqual(t *testing.T) {
	for _, c := range []struct {
		a, b string
		want bool
	}{
		{"https://A/%41", "HTTPS://a.:443/A", true}, {"https://x", "https://x/", true}, {"http://x:", "http://x:080/", true}, {"http://0x7f.1", "http://127.0.0.1/", true}, {"http://[::0]", "http://[::]/", true}, {"http://ü", "http://xn--tda", true}, {"app://", "app:", true}, {"app:%7e", "APP:~", true}, {"x:%c3", "x:%C3", true}, {"app:///x", "app:/x", true},
		{"https://a/a", "https://a/A", false}, {"https://x/", "http://x/", false}, {"https://x/", "http://x:443/", false}, {"https://x/", "https://x/?", false}, {"https://x/", "https://x/#", false}, {"https://x/?", "https://x/#", false}, {"https://x/", "https://y/", false}, {"https://x/", "https://x:444/", false}, {"app://x", "app://x/", false}, {"app://:80/", "app:/", false}, {"http://1.2.3.4", "http://[::ffff:1.2.3.4]", false}, {"x:%c3%bc", "x:ü", false}, {"https://x/a/../b", "https://x/b", false}, {"x:%2f", "x:/", false},
		{"x", "x", false}, {"", "", false}, {"https://u@x/", "https://u@x/", false}, {"https://x/", "https://x/%", false}, {"https://x/%", "https://x/", false}, {"https://x/ ", "https://x/ ", false},
	} {
		same(t, c.a+" and "+c.b, url.Equal(c.a, c.b), c.want)
		same(t, c.b+" and "+c.a, url.Equal(c.b, c.a), c.want)
	}
}

// joins asks for the URL that a text means at another one.
func joins(t *testing.T, at, s, want string) {
	t.Helper()
	u, err := url.Join(read(t, at), s)
	same(t, s+" at "+at, u, read(t, want))
	same(t, "the error of "+s+" at "+at, err, error(nil))
}

// P14.5
func TestJoin(t *testing.T) {
	const base = "https://x.y:8443/a/b?q#f"
	for s, want := range map[string]string{
		"": "https://x.y:8443/a/b?q", "#g": "https://x.y:8443/a/b?q#g", "#": "https://x.y:8443/a/b?q#", "##": "https://x.y:8443/a/b?q##", "#?r": "https://x.y:8443/a/b?q#?r", "?r": "https://x.y:8443/a/b?r", "?": "https://x.y:8443/a/b?", "??r#g": "https://x.y:8443/a/b??r#g", "/c": "https://x.y:8443/c", "/": "https://x.y:8443/", "/c?r#g": "https://x.y:8443/c?r#g", "/c//d": "https://x.y:8443/c//d", "/:": "https://x.y:8443/:",
		"c": "https://x.y:8443/a/c", "c/d": "https://x.y:8443/a/c/d", "c?r#g": "https://x.y:8443/a/c?r#g", "..": "https://x.y:8443/a/..", "./c": "https://x.y:8443/a/./c", "%7e": "https://x.y:8443/a/~", "ü": "https://x.y:8443/a/ü", "@": "https://x.y:8443/a/@",
		"//z/w": "https://z/w", "//Z": "https://z/", "//z:443?": "https://z/?", "//[::1]:1#": "https://[::1]:1/#",
		"http://z": "http://z/", "HTTPS://Z:443": "https://z/", "app:z": "app:z", "ab:": "ab:", "ab://h": "ab://h", "mailto:a@b?c": "mailto:a@b?c",
		"c:x": "https://x.y:8443/a/c:x", "c:": "https://x.y:8443/a/c:", "C://z": "https://x.y:8443/a/C://z", ":": "https://x.y:8443/a/:", "1a:x": "https://x.y:8443/a/1a:x", "a_b:x": "https://x.y:8443/a/a_b:x", "a/b:c": "https://x.y:8443/a/a/b:c", "a?b:c": "https://x.y:8443/a/a?b:c", strings.Repeat("a", 65) + ":": "https://x.y:8443/a/" + strings.Repeat("a", 65) + ":", strings.Repeat("a", 64) + ":": strings.Repeat("a", 64) + ":",
	} {
		joins(t, base, s, want)
	}
}

// P14.5: at URLs of other kinds.
func TestJoinAtOthers(t *testing.T) {
	for _, c := range []struct{ at, s, want string }{
		{"http://x", "c", "http://x/c"}, {"http://x", "", "http://x/"}, {"http://x/a/", "c", "http://x/a/c"}, {"http://x/a/", "?r", "http://x/a/?r"}, {"http://x//", "c", "http://x//c"}, {"http://x/a?b/c", "d", "http://x/d"}, {"http://x/#/a/b", "d", "http://x/d"}, {"http://x?#f", "", "http://x/?"}, {"http://x?#", "#g", "http://x/?#g"}, {"http://x:80/", "//y:80", "http://y/"}, {"http://[::1]:8/", "/c", "http://[::1]:8/c"}, {"http://x/a", "//y", "http://y/"},
		{"app:", "", "app:"}, {"app:", "x", "app:/x"}, {"app:x", "y", "app:/y"}, {"app:x/y", "z", "app:x/z"}, {"app:x/y?q#f", "", "app:x/y?q"}, {"app:x/y?q#f", "/z", "app:/z"}, {"app:x?q", "#f", "app:x?q#f"}, {"app:x?q", "?r", "app:x?r"}, {"app:x", "//h/p", "app://h/p"}, {"app:x", "//", "app:"}, {"app:x", "//:7/", "app://:7/"},
		{"app://h:7", "c", "app://h:7/c"}, {"app://h:7", "", "app://h:7"}, {"app://h/a/b", "c", "app://h/a/c"}, {"app://h/a", "//i", "app://i"}, {"app://h/a", "/b", "app://h/b"}, {"app://h/a?q", "?", "app://h/a?"},
		{"app://:80/a", "b", "app:/b"}, {"app://:80/a", "", "app:/a"}, {"app:///", "/", "app:/"}, {"app:////h/a", "b", "app://h/b"}, {"app:////h", "", "app://h"},
	} {
		joins(t, c.at, c.s, c.want)
	}
	u, err := url.Join(api.URL{Scheme: "x", Port: -1, Path: "a/b", Query: "q", Fragment: "f"}, "#g")
	same(t, "Join at a query that isn't there", u, api.URL{Scheme: "x", Port: -1, Path: "a/b", Fragment: "g", HasFrag: true})
	same(t, "its error", err, error(nil))
}

// P14.5: Parse's error, at 0.
func TestJoinErrors(t *testing.T) {
	long := strings.Repeat("a", 8180)
	for _, c := range []struct {
		at, s   string
		kind    api.Errno
		innerAt int
	}{
		{"https://x/a", "//", api.ErrHost, 8}, {"https://x/a", "///", api.ErrHost, 8}, {"https://x/a", "//a_b", api.ErrHost, 8}, {"https://x/a", "//u@y", api.ErrUser, 9}, {"https://x/a", "//y:z", api.ErrPort, 10}, {"https://x/a", "%", api.ErrForm, 10}, {"https://x/a/b", "?%", api.ErrForm, 14}, {"https://x/a", "#%", api.ErrForm, 12}, {"https://x/a", "/%zz", api.ErrForm, 10}, {"https://x/a", "b c", api.ErrForm, 11}, {"https://x/a", "\xff", api.ErrUTF, 10}, {"https://x/", "http:y", api.ErrHost, 5}, {"app:x", "http:y", api.ErrHost, 5}, {"https://x/", "http://y%", api.ErrHost, 7}, {"https://x/", "ab: ", api.ErrForm, 3}, {"https://x/", "ab:%", api.ErrForm, 3}, {"https://x/", "ab:\xff", api.ErrUTF, 3}, {"app:////a_b", "", api.ErrHost, 6},
		{"https://x/" + long, "#ab", api.ErrLong, 8192}, {"https://x/", long + "abc", api.ErrLong, 8192}, {"https://x/", "ab:" + long + "0123456789", api.ErrLong, 8192},
	} {
		u, err := url.Join(read(t, c.at), c.s)
		wrong(t, c.s+" at "+c.at, err, c.kind, 0, c.kind, c.innerAt)
		same(t, "Join beside an error", u, api.URL{})
	}
	_, err := url.Join(read(t, "https://x/a"), "//y:z")
	for _, kind := range []api.Errno{api.ErrPort, api.ErrForm} {
		same(t, "whether it is of all kinds that it came from", errors.Is(err, kind), true)
	}
	_, err = url.Join(api.URL{}, "x")
	wrong(t, "x at nothing", err, api.ErrScheme, 0, api.ErrScheme, 0)
	_, err = url.Join(api.URL{Scheme: "a b"}, "//x")
	wrong(t, "at no scheme", err, api.ErrForm, 0, api.ErrForm, 1)
	parsed, err := url.Join(read(t, "https://x/"+long), "#a")
	same(t, "a fragment that has room just so", parsed.Fragment, "a")
	same(t, "its error", err, error(nil))
}

// piece is a text of a part of a URL, with its mark; its normal form; and, if it is wrong, the error of a URL that has it, by the place within it.
type piece struct {
	text, want string
	kind       api.Errno
	at         int
	inner      api.Errno
	innerAt    int
}

// place is an authority as a piece, and what is read of it.
type place struct {
	piece
	host api.Host
	port int
}

var schemes = []piece{
	{text: "https:", want: "https"}, {text: "HTTP:", want: "http"}, {text: "app:", want: "app"}, {text: "A+.-9:", want: "a+.-9"},
	{text: "1a:", kind: api.ErrScheme, inner: api.ErrForm}, {text: "a_b:", kind: api.ErrScheme, at: 1, inner: api.ErrForm, innerAt: 1}, {text: ":", kind: api.ErrScheme, inner: api.ErrShort},
}

// The port 0 stands for a port that isn't told.
var places = []place{
	{piece: piece{text: ""}}, {piece: piece{text: "//"}}, {piece: piece{text: "//:"}}, {piece: piece{text: "//:80"}, port: 80}, {piece: piece{text: "//:443"}, port: 443},
	{piece: piece{text: "//X.com."}, host: name("x.com")}, {piece: piece{text: "//x.com:"}, host: name("x.com")}, {piece: piece{text: "//%78.com:0080"}, host: name("x.com"), port: 80}, {piece: piece{text: "//x.com:443"}, host: name("x.com"), port: 443}, {piece: piece{text: "//x.com:65535"}, host: name("x.com"), port: 65535},
	{piece: piece{text: "//0x7f.1:8"}, host: four("127.0.0.1"), port: 8}, {piece: piece{text: "//[::0]"}, host: six("::")}, {piece: piece{text: "//[::0]:"}, host: six("::")}, {piece: piece{text: "//[::A]:443"}, host: six("::a"), port: 443},
	{piece: piece{text: "//u@x", kind: api.ErrUser, at: 3}}, {piece: piece{text: "//u:@_@:x", kind: api.ErrUser, at: 4}}, {piece: piece{text: "//@", kind: api.ErrUser, at: 2}},
	{piece: piece{text: "//a.b_", kind: api.ErrHost, at: 2, inner: api.ErrHost}}, {piece: piece{text: "//ab%:x", kind: api.ErrHost, at: 2, inner: api.ErrHost, innerAt: 2}}, {piece: piece{text: "//[::0", kind: api.ErrHost, at: 2, inner: api.ErrHost}}, {piece: piece{text: "//[:0]:65536", kind: api.ErrHost, at: 2, inner: api.ErrHost}}, {piece: piece{text: "//a:1:2", kind: api.ErrHost, at: 2, inner: api.ErrHost}},
	{piece: piece{text: "//a:65536", kind: api.ErrPort, at: 4, inner: api.ErrRange}}, {piece: piece{text: "//[::0]:1x", kind: api.ErrPort, at: 8, inner: api.ErrForm, innerAt: 1}}, {piece: piece{text: "//:%31", kind: api.ErrPort, at: 3, inner: api.ErrForm}},
}

var paths = []piece{
	{}, {text: "/", want: "/"}, {text: "/a%2fb/%7e", want: "/a%2Fb/~"}, {text: "/a//b:@", want: "/a//b:@"}, {text: "//%41@", want: "//A@"}, {text: "x:y@z/[", want: "x:y@z/["}, {text: "%78", want: "x"},
	{text: "/%", kind: api.ErrForm, at: 1, inner: api.ErrForm, innerAt: 1}, {text: "/%41%4g%", kind: api.ErrForm, at: 4, inner: api.ErrForm, innerAt: 4}, {text: "%%41", kind: api.ErrForm, inner: api.ErrForm},
}

var queries = []piece{
	{}, {text: "?", want: "?"}, {text: "?%41=%c3&b?/:@", want: "?A=%C3&b?/:@"}, {text: "??//", want: "??//"},
	{text: "?%", kind: api.ErrForm, at: 1, inner: api.ErrForm}, {text: "?a?%2", kind: api.ErrForm, at: 3, inner: api.ErrForm, innerAt: 2},
}

var frags = []piece{
	{}, {text: "#", want: "#"}, {text: "##?%2d/%2f", want: "##?-/%2F"},
	{text: "#%", kind: api.ErrForm, at: 1, inner: api.ErrForm}, {text: "#a#%zz", kind: api.ErrForm, at: 3, inner: api.ErrForm, innerAt: 2},
}

// web is what is wrong of an authority for a web scheme alone.
func web(a place) place {
	switch {
	case a.text == "":
		a.kind = api.ErrHost
	case a.kind != 0 && a.kind != api.ErrPort:
	case a.host == (api.Host{}) && (a.text == "//" || a.text[2] == ':'):
		a.piece = piece{text: a.text, kind: api.ErrHost, at: 2, inner: api.ErrShort}
	}
	return a
}

// meant is the URL of right pieces, and its text, by the chapter's words.
func meant(scheme string, a place, path, query, frag string) (api.URL, string) {
	u := api.URL{Scheme: scheme, Host: a.host, Port: a.port, Path: path, HasQuery: query != "", HasFrag: frag != ""}
	u.Query, u.Fragment = strings.TrimPrefix(query, "?"), strings.TrimPrefix(frag, "#")
	own := map[string]int{"http": 80, "https": 443}[scheme]
	text := scheme + ":"
	if a.host.Text != "" {
		text += "//" + a.host.Text
		if a.host.Kind == api.HostV6 {
			text = scheme + "://[" + a.host.Text + "]"
		}
		if a.port != 0 && a.port != own {
			text += ":" + strconv.Itoa(a.port)
		}
	}
	if u.Port == 0 {
		u.Port = own
	}
	if u.Port == 0 {
		u.Port = -1
	}
	if own != 0 && path == "" {
		u.Path = "/"
	}
	return u, text + u.Path + query + frag
}

// whole asks for what Parse and Text say of a row of pieces.
func whole(t *testing.T, scheme piece, a place, path, query, frag piece) {
	t.Helper()
	if scheme.want == "http" || scheme.want == "https" {
		a = web(a)
	}
	s, row := "", []piece{scheme, a.piece, path, query, frag}
	var first *piece
	for i, p := range row {
		if p.kind != 0 && first == nil {
			first = &row[i]
			first.at += len(s)
		}
		s += p.text
	}
	if first != nil {
		refuses(t, s, first.kind, first.at, first.inner, first.innerAt)
		return
	}
	u, text := meant(scheme.want, a, path.want, query.want, frag.want)
	parses(t, s, u)
	same(t, "Text of "+s, url.Text(u), text)
	if u.Host != (api.Host{}) || !strings.HasPrefix(u.Path, "//") && u.Port < 0 {
		parses(t, text, u)
		same(t, s+" and "+text, url.Equal(s, text), true)
	}
}

// P14.2, P14.3 and P14.4: all rows of pieces, right ones and wrong ones.
func TestAllRows(t *testing.T) {
	for _, scheme := range schemes {
		for _, a := range places {
			for _, path := range paths {
				// Such a path would be of the authority, or one.
				if a.text != "" && path.text != "" && path.text[0] != '/' || a.text == "" && strings.HasPrefix(path.text, "//") {
					continue
				}
				for _, query := range queries {
					for _, frag := range frags {
						whole(t, scheme, a, path, query, frag)
					}
				}
			}
			if t.Failed() {
				return
			}
		}
	}
}

// byChance gives texts of what URLs are of.
func byChance(count int) []string {
	parts := []string{"https:", "http://", "HTTPS://x", "app:", "a", "B", "//", "/", "?", "#", ":", "::", "@", "[", "]", "[::1]", "[::1]:", "1", "80", "443", "65536", ".", "0x7f", "ü", "%", "%41", "%2f", "%c3", "\xff", " ", "\x7f", "-", "xn--tda"}
	r := rand.New(rand.NewSource(141))
	var list []string
	for range count {
		var text strings.Builder
		for range r.Intn(9) {
			text.WriteString(parts[r.Intn(len(parts))])
		}
		list = append(list, text.String())
	}
	return list
}

// P14.4 and P14.5: what Parse gives is told again by its text, and joined to.
func TestThereAndBack(t *testing.T) {
	right := 0
	for _, s := range byChance(200000) {
		u, err := url.Parse(s)
		if err != nil {
			continue
		}
		text := url.Text(u)
		if u.Host == (api.Host{}) && (strings.HasPrefix(u.Path, "//") || u.Port >= 0) {
			continue
		}
		right++
		parses(t, text, u)
		same(t, s+" and "+text, url.Equal(s, text), true)
		if joined, err := url.Join(api.URL{}, text); len(u.Scheme) > 1 && (joined != u || err != nil) {
			t.Errorf("%q at nothing: %v, %v", text, joined, err)
		}
		if t.Failed() {
			return
		}
	}
	if right < 5000 {
		t.Errorf("only %d of the texts are right", right)
	}
}

// share tells whether two texts lie in one memory.
func share(a, b string) bool {
	if a == "" || b == "" {
		return false
	}
	from := func(s string) uintptr { return uintptr(unsafe.Pointer(unsafe.StringData(s))) }
	return from(a) < from(b)+uintptr(len(b)) && from(b) < from(a)+uintptr(len(a))
}

// P14.6
func TestAnswersAreNew(t *testing.T) {
	for _, s := range []string{"https://x.com:8/a%41?q%2f#f", "app:x/y?q#f", "app://[::1]/p", "ab:c"} {
		u := read(t, s)
		joined, err := url.Join(u, "")
		same(t, "the error of Join", err, error(nil))
		absolute, err := url.Join(u, s)
		same(t, "the error of Join", err, error(nil))
		scheme, err := url.Scheme(s)
		same(t, "the error of Scheme", err, error(nil))
		texts := []string{s, scheme, url.Text(u), url.Text(u), url.Origin(u), url.Origin(u)}
		for _, u := range []api.URL{u, joined, absolute} {
			texts = append(texts, u.Scheme, u.Host.Text, u.Path, u.Query, u.Fragment)
		}
		for i := range texts {
			for j := range i {
				if share(texts[i], texts[j]) {
					t.Errorf("%q: %d and %d share", s, i, j)
				}
			}
		}
	}
	for _, s := range []string{"", "abc", "https:", "https://u@x", "https://x:x", "https://x/%", "\xff"} {
		_, errA := url.Parse(s)
		want := *errA.(*api.Fault)
		*errA.(*api.Fault) = api.Fault{Kind: api.ErrState, At: 99}
		_, errB := url.Parse(s)
		same(t, "an error, when another one is written over", *errB.(*api.Fault), want)
	}
}

// P1 and P2: all calls end, none panics, and a second run answers what the first one did.
func TestAnyArguments(t *testing.T) {
	texts := append(byChance(2000), "", ":", "//", "?", "#", "\xff", strings.Repeat("a", 99999), strings.Repeat(":", 99999), strings.Repeat("/", 8192), "x:"+strings.Repeat("?", 8190), "https://"+strings.Repeat("[", 8184), "https://"+strings.Repeat(":", 8184), "https://x:"+strings.Repeat("0", 8182), "https://"+strings.Repeat("ü", 4092), "http://"+strings.Repeat("a.", 4092), "x:"+strings.Repeat("%", 8190))
	ports := []int{math.MinInt, -1, 0, 80, 443, 65536, math.MaxInt}
	run := func() []any {
		var all []any
		keep := func(answers ...any) { all = append(all, answers...) }
		for i, s := range texts {
			u, err := url.Parse(s)
			keep(u, err)
			scheme, err := url.Scheme(s)
			keep(scheme, err, url.Web(s), url.Text(u), url.Origin(u), url.Equal(s, texts[i/2]))
			odd := api.URL{Scheme: texts[i/2], Host: api.Host{Kind: i % 5, Text: s}, Port: ports[i%len(ports)], Path: s, Query: s, Fragment: texts[i/3], HasQuery: i%2 == 0, HasFrag: i%3 == 0}
			keep(url.Text(odd), url.Origin(odd))
			for _, at := range []api.URL{u, odd, {}} {
				joined, err := url.Join(at, texts[i/2])
				keep(joined, err)
			}
		}
		return all
	}
	same(t, "the second run", run(), run())
}
