package percent_test

import (
	"bytes"
	"errors"
	"reflect"
	"strconv"
	"strings"
	"testing"
	"unsafe"

	"waybill/api"
	"waybill/percent"
)

const unreserved = "ABCDEFGHIJKLMNOPQRSTUVWXYZabcdefghijklmnopqrstuvwxyz0123456789-._~"

const hexes = "0123456789ABCDEFabcdef"

// everyByte has each byte once, in order.
var everyByte = func() string {
	b := make([]byte, 256)
	for i := range b {
		b[i] = byte(i)
	}
	return string(b)
}()

// wrongEscapes are texts whose escapes aren't right, with the place of the first one that isn't.
var wrongEscapes = map[string]int{
	"%": 0, "%4": 0, "%a": 0, "a%": 1, "a%4": 1, "%%": 0, "%%41": 0, "%4%41": 0, "%41%": 3, "%41%4": 3, "%41%%41": 3, "%41x%4x%": 4,
	"%g1": 0, "%1g": 0, "%G1": 0, "%1G": 0, "%/1": 0, "%1/": 0, "%:1": 0, "%1:": 0, "%@1": 0, "%1@": 0, "%`1": 0, "%1`": 0,
	"% 1": 0, "%1 ": 0, "%+1": 0, "%-1": 0, "%1-": 0, "%0x41": 0, "%x4": 0, "%1_": 0, "%é1": 0, "%\xff\xff": 0, "%\x00\x00": 0,
	"é%": 2, "\xff%zz": 1, "ab%cd%efg%h": 9, "%00%zz": 3, "%25%2": 3, "%2541%4": 5,
}

// share tells whether two memories, each told by its beginning and its size, have a byte in common.
func share(a *byte, sizeA int, b *byte, sizeB int) bool {
	if sizeA == 0 || sizeB == 0 {
		return false
	}
	from := func(p *byte) uintptr { return uintptr(unsafe.Pointer(p)) }
	return from(a) < from(b)+uintptr(sizeB) && from(b) < from(a)+uintptr(sizeA)
}

func shareTexts(a, b string) bool {
	return share(unsafe.StringData(a), len(a), unsafe.StringData(b), len(b))
}

func same(t *testing.T, what string, got, want any) {
	t.Helper()
	if !reflect.DeepEqual(got, want) {
		t.Errorf("%q: got %#v, want %#v", what, got, want)
	}
}

// wrong asks for the error itself, and for what errors.Is and errors.As tell of it.
func wrong(t *testing.T, what string, err error, kind api.Errno, at int) {
	t.Helper()
	var f *api.Fault
	if !errors.As(err, &f) {
		t.Errorf("%q: got %v, want errno %d at %d", what, err, kind, at)
		return
	}
	if f.Kind != kind || f.At != at || !errors.Is(err, kind) {
		t.Errorf("%q: got errno %d at %d, want %d at %d", what, f.Kind, f.At, kind, at)
	}
}

// decoded asks for the bytes, whether there are some or none.
func decoded(t *testing.T, s, want string) {
	t.Helper()
	b, err := percent.Decode(s)
	same(t, "Decode of "+s, string(b), want)
	same(t, "the error of Decode of "+s, err, error(nil))
}

func normal(t *testing.T, s, want string) {
	t.Helper()
	got, err := percent.Normal(s)
	same(t, "Normal of "+s, got, want)
	same(t, "the error of Normal of "+s, err, error(nil))
}

// P3.1: of every byte it is known whether it is unreserved.
func TestPlain(t *testing.T) {
	plain := 0
	for i := range 256 {
		want := strings.Contains(unreserved, everyByte[i:i+1])
		same(t, "Plain of "+strconv.Itoa(i), percent.Plain(byte(i)), want)
		if want {
			plain++
		}
	}
	same(t, "how many are unreserved", plain, 26+26+10+4)
}

// P3.1, and the chapter's first example.
func TestRight(t *testing.T) {
	for _, s := range []string{"", "a", "%41", "%00", "%fF", "%Ff", "a%20b", "%41%42", "%2541", "é\xff", "%ff%FE", everyByte[:'%'] + everyByte['%'+1:]} {
		same(t, "Right of "+s, percent.Right(s), error(nil))
	}
	wrong(t, "Right of a%2", percent.Right("a%2"), api.ErrForm, 1)
}

// P3.1 to P3.4: the three calls tell one error, at the first wrong escape, and nothing beside it.
func TestWrongEscapes(t *testing.T) {
	for s, at := range wrongEscapes {
		for _, ahead := range []string{"", "ab", "%41", "%e9/"} {
			for _, behind := range []string{"", "%"} {
				wrongEverywhere(t, ahead+s+behind, len(ahead)+at)
			}
		}
	}
}

func wrongEverywhere(t *testing.T, s string, at int) {
	t.Helper()
	wrong(t, "Right of "+s, percent.Right(s), api.ErrForm, at)
	b, err := percent.Decode(s)
	wrong(t, "Decode of "+s, err, api.ErrForm, at)
	text, errN := percent.Normal(s)
	wrong(t, "Normal of "+s, errN, api.ErrForm, at)
	if len(b) != 0 || text != "" {
		t.Errorf("%q: %q, %q beside an error", s, b, text)
	}
}

// P3.1 and P3.2: of every two bytes behind a mark it is known whether they are digits, and of which byte.
func TestEveryEscape(t *testing.T) {
	for i := range 256 {
		for j := range 256 {
			s := "%" + everyByte[i:i+1] + everyByte[j:j+1]
			if !strings.Contains(hexes, s[1:2]) || !strings.Contains(hexes, s[2:]) {
				wrong(t, s, percent.Right(s), api.ErrForm, 0)
				continue
			}
			n, err := strconv.ParseUint(s[1:], 16, 8)
			if err != nil {
				t.Fatal(err)
			}
			same(t, s, percent.Right(s), error(nil))
			decoded(t, s, string([]byte{byte(n)}))
		}
	}
}

// P3.2
func TestDecode(t *testing.T) {
	for s, want := range map[string]string{
		"": "", "a": "a", "%41": "A", "a%20b": "a b", "%00%ff": "\x00\xff", "%c3%A9": "é", "é\xff": "é\xff", "a+b": "a+b",
		"%25": "%", "%2541": "%41", "%2525": "%25", "%25%34%31": "%41", "%4142": "A42", "%30%31": "01",
	} {
		decoded(t, s, want)
	}
	rest := strings.ReplaceAll(everyByte, "%", "")
	decoded(t, rest, rest)
}

// P3.3: of every byte, with nothing kept, with the byte itself kept, and with all others kept.
func TestEncodeEveryByte(t *testing.T) {
	for i := range 256 {
		c := everyByte[i : i+1]
		want := "%" + string("0123456789ABCDEF"[i/16]) + string("0123456789ABCDEF"[i%16])
		if strings.Contains(unreserved, c) {
			want = c
		}
		others := strings.ReplaceAll(everyByte, c, "")
		same(t, "Encode of "+strconv.Itoa(i), percent.Encode([]byte(c), ""), want)
		same(t, "Encode of "+strconv.Itoa(i)+", the others kept", percent.Encode([]byte(c), others), want)
		if c != "%" {
			want = c
		}
		same(t, "Encode of "+strconv.Itoa(i)+", itself kept", percent.Encode([]byte(c), c), want)
		same(t, "Encode of "+strconv.Itoa(i)+", all kept", percent.Encode([]byte(c), everyByte), want)
	}
}

// P3.3
func TestEncode(t *testing.T) {
	for _, c := range []struct{ s, keep, want string }{
		{"", "", ""}, {"", "/%", ""}, {"a/b c", "", "a%2Fb%20c"}, {"a/b c", "/", "a/b%20c"}, {"a/b c", " /", "a/b c"}, {"a/b?c", "?//?", "a/b?c"},
		{"%41", "", "%2541"}, {"%41", "%", "%2541"}, {"%", "a%b", "%25"}, {"/%/", "%/%", "/%25/"}, {"%%", "%%", "%25%25"},
		{"é", "", "%C3%A9"}, {"é", "é", "é"}, {"é", "\xc3", "\xc3%A9"}, {"\xff", "\ufffd", "%FF"}, {"é", "è", "\xc3%A9"}, {"\n\x00", "", "%0A%00"}, {"-._~", "", "-._~"}, {"a+b", "", "a%2Bb"},
	} {
		same(t, c.s+", kept "+c.keep, percent.Encode([]byte(c.s), c.keep), c.want)
	}
	same(t, "Encode of nothing", percent.Encode(nil, ""), "")
}

// P3.3: there and back, whatever is kept.
func TestDecodeOfEncode(t *testing.T) {
	for _, s := range []string{"", "%", "%41", "%%%", "a%zz", everyByte, everyByte + everyByte, strings.Repeat("é%/", 99)} {
		for _, keep := range []string{"", "%", "/", "é%/", "0123%", everyByte} {
			decoded(t, percent.Encode([]byte(s), keep), s)
		}
	}
}

// P3.4, and the chapter's first example.
func TestNormal(t *testing.T) {
	for s, want := range map[string]string{
		"": "", "a": "a", "%7e%2fa%41": "~%2FaA", "%2f": "%2F", "%2F": "%2F", "%c3%A9": "%C3%A9", "%aB%Ab": "%AB%AB", "%0a": "%0A", "%00": "%00", "%ff": "%FF",
		"a b/é\xff?": "a b/é\xff?", "%20 ": "%20 ", "%2D%2e%5F%7E": "-._~", "%25": "%25", "%2541": "%2541", "%25%34%31": "%2541", "%2525": "%2525", "%252f": "%252f", "%34%31": "41", "%2b+": "%2B+", "aZ%3a": "aZ%3A",
	} {
		normal(t, s, want)
	}
}

// P3.4: of every escape, with small and with great digits; and that Normal and Decode of it tell what they told.
func TestNormalOfEveryEscape(t *testing.T) {
	for i := range 256 {
		c := everyByte[i : i+1]
		escape := "%" + string("0123456789ABCDEF"[i/16]) + string("0123456789ABCDEF"[i%16])
		want := escape
		if strings.Contains(unreserved, c) {
			want = c
		}
		for _, s := range []string{escape, strings.ToLower(escape)} {
			normal(t, s, want)
			normal(t, "a"+s+"%2f"+s+"b", "a"+want+"%2F"+want+"b")
		}
		normal(t, want, want)
		decoded(t, want, c)
		if c != "%" {
			normal(t, c, c)
		}
	}
}

// P3.4: of a text of all bytes, and of one in which an escape is made by another one's byte.
func TestNormalAgain(t *testing.T) {
	for _, s := range []string{"%7e%2fa%41", "%25%34%31%2541", "%25%32%35", percent.Encode([]byte(everyByte), everyByte), percent.Encode([]byte(everyByte), "")} {
		once, err := percent.Normal(s)
		same(t, "the error of Normal of "+s, err, error(nil))
		normal(t, once, once)
		b, err := percent.Decode(s)
		same(t, "the error of Decode of "+s, err, error(nil))
		decoded(t, once, string(b))
	}
}

// P3.5: neither what is handed in nor its spare room is written to, nor kept.
func TestHandedInStays(t *testing.T) {
	room := []byte("a/é%bcdefgh")
	before := string(room)
	text := percent.Encode(room[:5], "/%")
	same(t, "the bytes", string(room), before)
	clear(room)
	same(t, "the text, when the bytes are written over", text, "a/%C3%A9%25")
}

// P3.5: answers lie in none of what is handed in, and in none of another answer.
func TestAnswersAreNew(t *testing.T) {
	for _, s := range []string{"abcdef/", "ab%2Fcd", "%41%42%43", "plain"} {
		first, _ := percent.Decode(s)
		second, _ := percent.Decode(s)
		want := bytes.Clone(second)
		room := first[:cap(first)]
		if share(&room[0], len(room), unsafe.StringData(s), len(s)) {
			t.Errorf("Decode of %q lies in it", s)
		}
		clear(room)
		same(t, "Decode, when another answer is written over", second, want)
		text, _ := percent.Normal(s)
		if shareTexts(text, s) {
			t.Errorf("Normal of %q lies in it", s)
		}
	}
	b := []byte("abc/")
	text := percent.Encode(b, "/")
	if share(unsafe.StringData(text), len(text), &b[0], cap(b)) {
		t.Error("Encode lies in its bytes")
	}
	errA, errB := percent.Right("%"), percent.Right("%")
	errA.(*api.Fault).At = 9
	wrong(t, "Right", errB, api.ErrForm, 0)
}

// P1 and P2: all calls end, none panics, and a second run answers what the first one did.
func TestAnyArguments(t *testing.T) {
	texts := []string{"", "%", "%4", "%41", everyByte, strings.Repeat("%", 999), strings.Repeat("%e9", 999), strings.Repeat("a", 9999)}
	for s := range wrongEscapes {
		texts = append(texts, s)
	}
	run := func() []any {
		var all []any
		keep := func(answers ...any) { all = append(all, answers...) }
		for _, s := range texts {
			b, errD := percent.Decode(s)
			text, errN := percent.Normal(s)
			keep(b, errD, text, errN, percent.Right(s))
			for _, other := range texts {
				keep(percent.Encode([]byte(s), other))
			}
		}
		for i := range 256 {
			keep(percent.Plain(byte(i)))
		}
		return all
	}
	same(t, "the second run", run(), run())
}
