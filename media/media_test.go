package media_test

import (
	"errors"
	"reflect"
	"regexp"
	"slices"
	"strings"
	"testing"
	"unsafe"

	"waybill/api"
	"waybill/media"
)

const tokenBytes = "!#$%&'*+-.^_`|~0123456789ABCDEFGHIJKLMNOPQRSTUVWXYZabcdefghijklmnopqrstuvwxyz"

// everyByte has each byte once, in order.
var everyByte = func() string {
	b := make([]byte, 256)
	for i := range b {
		b[i] = byte(i)
	}
	return string(b)
}()

// given is a kind as one reads it: of a type, a subtype, and names and values in turn.
func given(kind, sub string, more ...string) api.Media {
	m := api.Media{Type: kind, Sub: sub}
	for i := 0; i+1 < len(more); i += 2 {
		m.Params = append(m.Params, api.Item{Name: more[i], Value: more[i+1], Has: true})
	}
	return m
}

func same(t *testing.T, what string, got, want any) {
	t.Helper()
	if !reflect.DeepEqual(got, want) {
		t.Errorf("%q: got %#v, want %#v", what, got, want)
	}
}

// equal holds kinds against each other; a nil list and one without elements are one.
func equal(a, b api.Media) bool {
	return a.Type == b.Type && a.Sub == b.Sub && slices.Equal(a.Params, b.Params)
}

func parses(t *testing.T, s string, want api.Media) {
	t.Helper()
	got, err := media.Parse(s)
	if err != nil || !equal(got, want) {
		t.Errorf("Parse of %q: got %#v, %v, want %#v", s, got, err, want)
	}
}

// wrong asks for the error itself, and for what errors.Is and errors.As tell of it.
func wrong(t *testing.T, what string, err error, kind api.Errno, at int) {
	t.Helper()
	var f *api.Fault
	if !errors.As(err, &f) {
		t.Errorf("%q: got %v, want errno %d at %d", what, err, kind, at)
		return
	}
	if f.Kind != kind || f.At != at || !errors.Is(err, kind) {
		t.Errorf("%q: got errno %d at %d, want %d at %d", what, f.Kind, f.At, kind, at)
	}
}

// refuses asks for nothing beside the error, too.
func refuses(t *testing.T, s string, kind api.Errno, at int) {
	t.Helper()
	got, err := media.Parse(s)
	wrong(t, "Parse of "+s, err, kind, at)
	if !equal(got, api.Media{}) {
		t.Errorf("Parse of %q: %#v beside an error", s, got)
	}
}

// words are all texts of at most so many of the letters, the empty one among them.
func words(letters []string, most int) []string {
	all, from := []string{""}, 0
	for range most {
		to := len(all)
		for _, w := range all[from:to] {
			for _, l := range letters {
				all = append(all, w+l)
			}
		}
		from = to
	}
	return all
}

// P17.1
func TestToken(t *testing.T) {
	for s, want := range map[string]bool{
		"": false, "a": true, "Z": true, "0": true, "a!#~": true, "!#$%&'*+-.^_`|~": true, tokenBytes: true, "application": true, "x-y.z": true,
		" ": false, "a b": false, " a": false, "a ": false, "a\t": false, "a/b": false, "a;": false, "a=": false, "=a": false, "\"": false, "\"a\"": false, "\\": false, "a,": false, "(a)": false, "<a>": false, "a@b": false, "a:b": false, "[a]": false, "{a}": false, "a?": false, "a\n": false, "a\x00": false, "\x7f": false,
		"é": false, "aé": false, "€": false, "😀": false, "\xff": false, "a\xff": false, "\x80": false, "\uFFFD": false, "a\xc3": false, "ａ": false, "²": false,
		strings.Repeat("a", 100): true, strings.Repeat("a", 101): false, strings.Repeat("a", 99) + "é": false, strings.Repeat("a", 100) + " ": false, strings.Repeat("!", 9999): false,
	} {
		same(t, "Token of "+s, media.Token(s), want)
	}
	for i := range 256 {
		c := everyByte[i : i+1]
		want := strings.Contains(tokenBytes, c)
		for _, s := range []string{c, "a" + c, c + "a", "a" + c + "a"} {
			same(t, "Token of "+s, media.Token(s), want)
		}
	}
}

// P17.1
func TestParse(t *testing.T) {
	for s, want := range map[string]api.Media{
		"a/b": given("a", "b"), "text/HTML": given("text", "html"), "APPLICATION/Vnd.X+JSON": given("application", "vnd.x+json"), "!/~": given("!", "~"), "*/*": given("*", "*"), "1/2": given("1", "2"),
		" a/b": given("a", "b"), "\t a/b\t ": given("a", "b"), "a/b ": given("a", "b"),
		"a/b;x=1": given("a", "b", "x", "1"), "a/b; x=1": given("a", "b", "x", "1"), "a/b \t;\t x=1 \t": given("a", "b", "x", "1"), "a/b;X=Y": given("a", "b", "x", "Y"), "a/b;x=1;y=2 ; z=3": given("a", "b", "x", "1", "y", "2", "z", "3"), "a/b;z=1;a=1": given("a", "b", "z", "1", "a", "1"),
		"a/b;x=\"\"": given("a", "b", "x", ""), "a/b;x=\"y\"": given("a", "b", "x", "y"), "a/b;x=\" Y ; z=/ \"": given("a", "b", "x", " Y ; z=/ "), "a/b;x=\"\\\"\\\\\\a\"": given("a", "b", "x", "\"\\a"), "a/b;x=\"1\";y=\"2\" ": given("a", "b", "x", "1", "y", "2"), "a/b;x=\"1\" ;y=2": given("a", "b", "x", "1", "y", "2"), "a/b;x=\"é\xff\\é\n\x00\"": given("a", "b", "x", "é\xffé\n\x00"), "a/b;x=\"\\\xff\"": given("a", "b", "x", "\xff"),
		"a/b;x=" + strings.Repeat("Y", 100): given("a", "b", "x", strings.Repeat("Y", 100)), "a/b;" + strings.Repeat("X", 100) + "=1": given("a", "b", strings.Repeat("x", 100), "1"), "a/b;x=\"" + strings.Repeat("Y", 101) + "\"": given("a", "b", "x", strings.Repeat("Y", 101)), strings.Repeat("A", 100) + "/" + strings.Repeat("B", 100): given(strings.Repeat("a", 100), strings.Repeat("b", 100)),
		" Application/LD+JSON ;\tCharset=UTF-8; q=\"a \\\"b\\\\\" ": given("application", "ld+json", "charset", "UTF-8", "q", "a \"b\\"), "a/b;q=%41": given("a", "b", "q", "%41"), "a/b;é": {},
	} {
		if want.Type == "" {
			refuses(t, s, api.ErrForm, 0)
			continue
		}
		parses(t, s, want)
	}
	all := "a/b;" + tokenBytes[:1] + "=" + tokenBytes
	parses(t, all, given("a", "b", "!", tokenBytes))
	// Every byte stands for itself behind an escape, and without one unless it is an escape or ends the text.
	for i := range 256 {
		c := everyByte[i : i+1]
		parses(t, "a/b;x=\"1\\"+c+"2\"", given("a", "b", "x", "1"+c+"2"))
		if c != `"` && c != `\` {
			parses(t, "a/b;x=\"1"+c+"2\"", given("a", "b", "x", "1"+c+"2"))
		}
	}
}

// P17.1: what is no kind's text.
func TestParseForm(t *testing.T) {
	for _, s := range []string{
		"", " ", "a", "a/", "/", "/b", "a b", "a /b", "a/ b", " /b", "a//b", "a/b/c", "a/b c", "a/b,c/d", "a/b;", "a/b; ", "a/b;;", "a/b;;x=1", "a/b;x=1;", "a/b;x=1; ", ";x=1", "a;x=1", "a/;x=1",
		"a/b;x", "a/b;x=", "a/b;=1", "a/b;=", "a/b; x =1", "a/b; x= 1", "a/b;x==1", "a/b;x=1=2", "a/b;x=1 y=2", "a/b;x=1,y=2", "a/b x=1", "a/b;x:1", "a/b;x=1 2", "a/b;\"x\"=1",
		"a/b;x=\"", "a/b;x=\"y", "a/b;x=\"\\", "a/b;x=\"\\\"", "a/b;x=\"y\\\"", "a/b;x=\"y\\\\\\\"", "a/b;x=\"y\"z", "a/b;x=\"y\"\"z\"", "a/b;x=y\"z\"", "a/b;x=y\"", "a/b;x=\"y\"=1", "a/b;x=\"\"\"",
		"a/b\n", "\na/b", "\ra/b", "a/b;\nx=1", "a/b\n;x=1", "a/b;x=1\n", "a/b\x00", "\u00a0a/b", "a/b\u00a0", "a/b;\u00a0x=1", "a/b;x=\xff", "\xff/b", "a/\xff", "a/b;\xff=1", "é/b", "a/é", "a/b;é=1", "a/b;x=é", "a@b/c", "a\\/b", "a/b;x=\\y",
		strings.Repeat("a", 101) + "/b", "a/" + strings.Repeat("b", 101), "a/b;" + strings.Repeat("x", 101) + "=1", "a/b;x=" + strings.Repeat("1", 101), strings.Repeat(" ", 1000), "a/b;x=\"" + strings.Repeat("y", 993),
	} {
		refuses(t, s, api.ErrForm, 0)
	}
	for i := range 256 {
		c := everyByte[i : i+1]
		if strings.Contains(tokenBytes, c) {
			parses(t, c+"/"+c+";"+c+"="+c, given(strings.ToLower(c), strings.ToLower(c), strings.ToLower(c), c))
			continue
		}
		refuses(t, "a"+c+"a/b", api.ErrForm, 0)
		refuses(t, "a/b"+c+"b", api.ErrForm, 0)
		refuses(t, "a/b;x"+c+"x=1", api.ErrForm, 0)
		refuses(t, "a/b;x=1"+c+"1", api.ErrForm, 0)
	}
}

// P17.1: of several errors the one that is named first.
func TestParseErrorsInOrder(t *testing.T) {
	full, want := "a/b", given("a", "b")
	for i := range 8 {
		name := string(rune('a' + i))
		full += ";" + name + "=1"
		want.Params = append(want.Params, api.Item{Name: name, Value: "1", Has: true})
	}
	parses(t, full, want)
	refuses(t, full+";i=1", api.ErrMany, 0)
	refuses(t, full+";a=1", api.ErrMany, 0)
	refuses(t, full+";i=1;", api.ErrForm, 0)
	refuses(t, full+";a=1;j=", api.ErrForm, 0)
	refuses(t, "a/b;x=1;x=1;", api.ErrForm, 0)
	refuses(t, "a/b"+strings.Repeat(";x=1", 9), api.ErrMany, 0)
	refuses(t, "a/b"+strings.Repeat(";x=1", 8), api.ErrThere, 0)
	refuses(t, "a/b"+strings.Repeat(";x=1", 249), api.ErrMany, 0)
	refuses(t, "a/b"+strings.Repeat(";x=1", 249)+" ", api.ErrMany, 0)
	refuses(t, "a/b"+strings.Repeat(";x=1", 249)+";", api.ErrForm, 0)
	refuses(t, "a/b"+strings.Repeat(";x=1", 249)+"  ", api.ErrLong, 1000)
	for _, s := range []string{"a/b;x=1;x=1", "a/b;x=1;X=2", "a/b;XY=1;y=2;xy=\"\"", "a/b;x=1;y=2;z=3;y=4", "a/b;y=2;x=1;x=1", "a/b;*=1;*=1"} {
		refuses(t, s, api.ErrThere, 0)
	}
	parses(t, "a/b;x=1;xx=1;y=1", given("a", "b", "x", "1", "xx", "1", "y", "1"))
	// As long as it may be, and longer.
	for _, s := range []string{" a/b", "a/b ", "a/b;x=\"\"", "a/b;x=1 ;y=1"} {
		pad := strings.Repeat(" ", 1000-len(s))
		_, err := media.Parse(pad + s)
		same(t, "the error of 1000 bytes", err, error(nil))
		refuses(t, pad+" "+s, api.ErrLong, 1000)
	}
	parses(t, "a/b;x=\""+strings.Repeat("y", 992)+"\"", given("a", "b", "x", strings.Repeat("y", 992)))
	refuses(t, "a/b;x=\""+strings.Repeat("y", 993)+"\"", api.ErrLong, 1000)
	refuses(t, strings.Repeat("\xff", 1001), api.ErrLong, 1000)
	refuses(t, strings.Repeat(" ", 99999), api.ErrLong, 1000)
}

// The chapter's forms, by the language's own patterns.
var (
	token = "[" + regexp.QuoteMeta("!#$%&'*+-.^_`|~") + "0-9A-Za-z]{1,100}"
	value = "(?:(" + token + `)|"((?s:[^"\\]|\\.)*)")`
	param = "[ \t]*;[ \t]*(" + token + ")=" + value
	whole = regexp.MustCompile("^[ \t]*(" + token + ")/(" + token + ")((?:" + param + ")*)[ \t]*$")
	one   = regexp.MustCompile(param)
	freed = regexp.MustCompile(`(?s)\\(.)`)
)

// asForm reads a short text by the chapter's forms.
func asForm(s string) (m api.Media, kind api.Errno) {
	parts := whole.FindStringSubmatch(s)
	if parts == nil {
		return m, api.ErrForm
	}
	m = given(strings.ToLower(parts[1]), strings.ToLower(parts[2]))
	there := map[string]struct{}{}
	for _, p := range one.FindAllStringSubmatch(parts[3], -1) {
		name := strings.ToLower(p[1])
		there[name] = struct{}{}
		m.Params = append(m.Params, api.Item{Name: name, Value: p[2] + freed.ReplaceAllString(p[3], "$1"), Has: true})
	}
	if len(there) < len(m.Params) {
		return api.Media{}, api.ErrThere
	}
	return m, 0
}

// P17.1: of all short texts.
func TestParseOfAll(t *testing.T) {
	for _, s := range slices.Concat(
		words([]string{"a", "B", "/", ";", "=", "\"", " "}, 5),
		prefixed("a/b", words([]string{"X", ";", "=", "\"", "\\", " "}, 6)),
		prefixed("a/b;x=", words([]string{"Y", ";x=", ";y=", "\"", "\\", "\t", "\xff"}, 5)),
	) {
		want, kind := asForm(s)
		if kind != 0 {
			refuses(t, s, kind, 0)
			continue
		}
		parses(t, s, want)
		thereAndBack(t, want)
	}
}

func prefixed(prefix string, list []string) []string {
	for i := range list {
		list[i] = prefix + list[i]
	}
	return list
}

func thereAndBack(t *testing.T, m api.Media) {
	t.Helper()
	parses(t, media.Text(m), m)
}

// P17.2
func TestText(t *testing.T) {
	for _, c := range []struct {
		m    api.Media
		want string
	}{
		{given("a", "b"), "a/b"}, {given("a", "b", "x", "1"), "a/b; x=1"}, {given("a", "b", "x", "1", "y", "Z"), "a/b; x=1; y=Z"}, {given("a", "b", "y", "1", "x", "1"), "a/b; y=1; x=1"},
		{given("a", "b", "x", ""), `a/b; x=""`}, {given("a", "b", "x", " "), `a/b; x=" "`}, {given("a", "b", "x", "a b"), `a/b; x="a b"`}, {given("a", "b", "x", `"`), `a/b; x="\""`}, {given("a", "b", "x", `\`), `a/b; x="\\"`}, {given("a", "b", "x", `\"\\""`), `a/b; x="\\\"\\\\\"\""`}, {given("a", "b", "x", "/;=,\n\x00é\xff"), "a/b; x=\"/;=,\n\x00é\xff\""},
		{given("a", "b", "x", strings.Repeat("y", 100)), "a/b; x=" + strings.Repeat("y", 100)}, {given("a", "b", "x", strings.Repeat("y", 101)), `a/b; x="` + strings.Repeat("y", 101) + `"`}, {given("a", "b", "x", tokenBytes), "a/b; x=" + tokenBytes},
		{api.Media{}, "/"}, {given("", "", "", ""), `/; =""`}, {given("A", "B", "X", "Y"), "A/B; X=Y"}, {given("a/b", "c;d", "x=", "1"), "a/b/c;d; x==1"}, {given("\xff", "é", " ", "1"), "\xff/é;  =1"}, {given("a", "b", "x", "1", "x", "2"), "a/b; x=1; x=2"},
		{api.Media{Type: "a", Sub: "b", Params: []api.Item{{Name: "x"}, {Name: "y", Value: "1"}}}, `a/b; x=""; y=1`},
		{given("application", "ld+json", "charset", "UTF-8", "q", "a \"b\\"), `application/ld+json; charset=UTF-8; q="a \"b\\"`},
	} {
		same(t, "Text for "+c.want, media.Text(c.m), c.want)
	}
	for i := range 256 {
		c := everyByte[i : i+1]
		want := `"` + c + `"`
		switch {
		case strings.Contains(tokenBytes, c):
			want = c
		case c == `"` || c == `\`:
			want = `"\` + c + `"`
		}
		same(t, "Text of "+c, media.Text(given("a", "b", "x", c)), "a/b; x="+want)
		thereAndBack(t, given("a", "b", "x", c, "y", c+c))
	}
	many := given("a", "b")
	many.Params = slices.Repeat([]api.Item{{Name: "x", Value: " "}}, 9999)
	same(t, "Text of many", media.Text(many), "a/b"+strings.Repeat(`; x=" "`, 9999))
}

// P17.2: what Parse gave comes back, with as many parameters and bytes as there may be.
func TestThereAndBack(t *testing.T) {
	for _, s := range []string{
		" Application/LD+JSON ;\tCharset=UTF-8; q=\"a \\\"b\\\\\" ", "a/b;a=1;b=\"\";c=\" \";d=\"\\\\\";e=\"\\\"\";f=\"\\f\";g=\"g\";h=\";\"", "a/b; x=\"" + strings.Repeat("\\\"", 495) + "\"", "a/b; x=\"" + strings.Repeat("\\y", 495) + "\"", "*/*", "a/b;x=\"" + strings.Repeat("y", 991) + "\"",
	} {
		m, err := media.Parse(s)
		same(t, "the error of "+s, err, error(nil))
		thereAndBack(t, m)
	}
}

// P17.3
func TestParam(t *testing.T) {
	m := given("a", "b", "x", "1", "y", "", "x", "2", "X", "3", "", "4", "é", "5", "\xff", "6")
	m.Params = append(m.Params, api.Item{Name: "bare"}, api.Item{Name: "left", Value: "7"})
	for name, want := range map[string]string{"x": "1", "y": "", "X": "3", "": "4", "é": "5", "\xff": "6", "bare": "", "left": "7"} {
		got, ok := media.Param(m, name)
		same(t, "the value of "+name, got, want)
		same(t, "whether there is "+name, ok, true)
	}
	for _, name := range []string{"z", "Y", "xx", " x", "É", "\xfe", "1", "BARE"} {
		got, ok := media.Param(m, name)
		same(t, "the value of "+name, got, "")
		same(t, "whether there is "+name, ok, false)
	}
	got, ok := media.Param(api.Media{}, "")
	same(t, "the value of none", got, "")
	same(t, "whether there is one in none", ok, false)
}

// P17.3
func TestJSON(t *testing.T) {
	for sub, want := range map[string]bool{
		"json": true, "pkcs7-mime": true, "x+json": true, "a+b+json": true, "++json": true, "+json+json": true, "ld+json": true, "\xff+json": true,
		"+json": false, "": false, "jso": false, "json ": false, "xjson": false, "x-json": false, "x+jsons": false, "json+x": false, "x+JSON": false, "JSON": false, "Json": false, "x+pkcs7-mime": false, "pkcs7": false, "pkcs7-mime+": false, "PKCS7-mime": false, "xml": false, "octet-stream": false,
	} {
		same(t, "JSON of "+sub, media.JSON(given("application", sub)), want)
		same(t, "JSON of "+sub+" with a parameter", media.JSON(given("application", sub, "charset", "ascii")), want)
		for _, kind := range []string{"", "text", "Application", "APPLICATION", "application ", "applications", "image", "\xff"} {
			same(t, "JSON of "+kind+" and "+sub, media.JSON(given(kind, sub)), false)
		}
	}
}

// P17.4, and the chapter's example.
func TestAccept(t *testing.T) {
	for _, s := range []string{
		"application/json", "APPLICATION/JSON", "Application/JSON; Charset=\"UTF-8\"", "application/json;charset=utf-8", "application/json; charset=uTf-8", "application/json;charset=\"\\u\\T\\f\\-\\8\"", "application/json; x=1; charset=utf-8; y=ascii", "application/json; charsets=ascii", "application/pkcs7-mime", "application/PKCS7-Mime; smime-type=signed-data", "application/x+json", "application/X+Json;charset=Utf-8", "\t application/json ",
	} {
		same(t, "Accept of "+s, media.Accept(s), error(nil))
	}
	for _, s := range []string{
		"text/html", "text/json", "text/plain; charset=utf-8", "application/+json", "application/xml", "application/octet-stream", "application/json; charset=ascii", "application/json; charset=utf8", "application/json; charset=utf-16", "application/json;charset=\"\"", "application/json;charset=\" utf-8\"", "application/json;charset=\"utf-8 \"", "application/json;charset=iso-8859-1;x=utf-8", "application/x+json;CHARSET=latin1", "application/pkcs7-mime; charset=x", "application/json;charset=\"utf-8\xff\"", "text/html;charset=ascii",
	} {
		err := media.Accept(s)
		wrong(t, "Accept of "+s, err, api.ErrType, 0)
		same(t, "whether it came from another error", errors.Unwrap(err), error(nil))
	}
	for s, kind := range map[string]api.Errno{
		"": api.ErrForm, "application/json;": api.ErrForm, "json": api.ErrForm, "application/json, application/json": api.ErrForm, "application/json;charset": api.ErrForm, "application/json" + strings.Repeat(";charset=ascii", 9): api.ErrMany, "application/json;charset=utf-8;Charset=utf-8": api.ErrThere, "text/html;a=1;a=1": api.ErrThere, strings.Repeat(" ", 1001): api.ErrLong,
	} {
		err := media.Accept(s)
		wrong(t, "Accept of "+s, err, api.ErrType, 0)
		_, of := media.Parse(s)
		same(t, "the error that Accept's came from, of "+s, errors.Unwrap(err), of)
		same(t, "whether it is of that kind, of "+s, errors.Is(err, kind), true)
	}
}

// P17.5: neither what is handed in nor its spare room is written to, nor kept.
func TestHandedInStays(t *testing.T) {
	room := given("A", "B", "x", "1", "charset", "UTF 8", "spare", "2", "room", "3").Params
	before := slices.Clone(room)
	m := api.Media{Type: "A", Sub: "B", Params: room[:2]}
	text := media.Text(m)
	got, ok := media.Param(m, "charset")
	same(t, "whether there is a charset", ok, true)
	_, ok = media.Param(m, "spare")
	same(t, "whether there is what stands in the spare room", ok, false)
	same(t, "whether it is JSON", media.JSON(m), false)
	same(t, "the parameters", room, before)
	clear(room)
	same(t, "the text, when the parameters are written over", text, `A/B; x=1; charset="UTF 8"`)
	same(t, "the value, when the parameters are written over", got, "UTF 8")
}

// share tells whether two texts lie in one memory.
func share(a, b string) bool {
	from := func(s string) uintptr { return uintptr(unsafe.Pointer(unsafe.StringData(s))) }
	return a != "" && b != "" && from(a) < from(b)+uintptr(len(b)) && from(b) < from(a)+uintptr(len(a))
}

// P17.5: answers lie in none of what is handed in, and in none of another answer.
func TestAnswersAreNew(t *testing.T) {
	const s = `text/plain;name=value;other="another one"`
	m, err := media.Parse(s)
	same(t, "the error", err, error(nil))
	again, _ := media.Parse(s)
	for _, part := range []string{m.Type, m.Sub, m.Params[0].Name, m.Params[0].Value, m.Params[1].Name, m.Params[1].Value} {
		same(t, "whether "+part+" lies in the text", share(part, s), false)
	}
	v, _ := media.Param(m, "name")
	same(t, "whether a value lies in the kind", share(v, m.Params[0].Value), false)
	text := media.Text(m)
	same(t, "whether the text lies in the kind", share(text, m.Type) || share(text, m.Params[1].Value), false)
	clear(m.Params[:cap(m.Params)])
	parses(t, s, again)
	same(t, "another answer, when one is written over", equal(again, given("text", "plain", "name", "value", "other", "another one")), true)
	errA := media.Accept("")
	errA.(*api.Fault).At, errA.(*api.Fault).Inner.(*api.Fault).At = 9, 9
	refuses(t, "", api.ErrForm, 0)
	wrong(t, "Accept of none", media.Accept(""), api.ErrType, 0)
}

// P1 and P2: all calls end, none panics, and a second run answers what the first one did.
func TestAnyArguments(t *testing.T) {
	texts := append(words([]string{"a", "/", ";", "=", "\"", "\\", "\xff"}, 3), everyByte, "a/b;x=\""+everyByte, strings.Repeat("\"", 1000), strings.Repeat("\\", 1000), "a/b;x=\""+strings.Repeat("\\", 993), strings.Repeat("a", 99999), "a/b"+strings.Repeat(";a=1", 249), "application/json")
	run := func() []any {
		var answers []any
		keep := func(more ...any) { answers = append(answers, more...) }
		for _, s := range texts {
			m, err := media.Parse(s)
			keep(m, err, media.Accept(s), media.Token(s), media.JSON(m), media.Text(m))
			odd := api.Media{Type: s, Sub: s, Params: []api.Item{{Name: s, Value: s}, {Name: s, Value: s, Has: true}}}
			v, ok := media.Param(odd, s)
			keep(media.JSON(odd), media.Text(odd), v, ok)
		}
		return answers
	}
	same(t, "the second run", run(), run())
}
