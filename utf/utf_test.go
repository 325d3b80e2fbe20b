package utf_test

import (
	"bytes"
	"errors"
	"math"
	"reflect"
	"slices"
	"testing"

	"waybill/api"
	"waybill/utf"
)

// bytesOf is the chapter's rule for a character's bytes, worked out without the package's own means.
func bytesOf(char int) []byte {
	tail := func(shift int) byte { return 0x80 | byte(char>>shift&0x3f) }
	switch {
	case char < 0x80:
		return []byte{byte(char)}
	case char < 0x800:
		return []byte{0xc0 | byte(char>>6), tail(0)}
	case char < 0x10000:
		return []byte{0xe0 | byte(char>>12), tail(6), tail(0)}
	default:
		return []byte{0xf0 | byte(char>>18), tail(12), tail(6), tail(0)}
	}
}

func isChar(n int) bool { return n >= 0 && n <= 0x10ffff && (n < 0xd800 || n > 0xdfff) }

// noChars are the numbers next to the characters' bounds, and some whose last 32 bits would be a character.
var noChars = []int{math.MinInt, math.MinInt + 'a', -1 << 32, -1, 0xd800, 0xdbff, 0xdc00, 0xdfff, 0x110000, 1 << 31, 1<<32 + 'a', math.MaxInt}

// edgeChars are the characters at which their form changes.
var edgeChars = []int{0, 'a', 0x7f, 0x80, 0x7ff, 0x800, 0xd7ff, 0xe000, 0xfffd, 0xffff, 0x10000, 0x1f600, 0x10ffff}

// bad are bytes that begin with no character's bytes.
var bad = []string{
	"\x80", "\xbf", "\xff", "\xfe", "\xf8\x88\x80\x80\x80", // bytes that begin none
	"\xc0\x80", "\xc1\xbf", "\xe0\x80\x80", "\xe0\x9f\xbf", "\xf0\x80\x80\x80", "\xf0\x8f\xbf\xbf", // longer forms
	"\xed\xa0\x80", "\xed\xaf\xbf", "\xed\xb0\x80", "\xed\xbf\xbf", // halves
	"\xf4\x90\x80\x80", "\xf5\x80\x80\x80", "\xf7\xbf\xbf\xbf", // above the last character
	"\xc3", "\xe2", "\xe2\x82", "\xf0", "\xf0\x9f", "\xf0\x9f\x98", // cut off
	"\xc3a", "\xe2\x82a", "\xe2a\xac", "\xf0\x9f\x98a", "\xf0\x9fa\x80", "\xf0a\x98\x80", // broken off
}

func same(t *testing.T, what string, got, want any) {
	t.Helper()
	if !reflect.DeepEqual(got, want) {
		t.Errorf("%s: got %#v, want %#v", what, got, want)
	}
}

// wrong asks for the error itself, and for what errors.Is and errors.As tell of it.
func wrong(t *testing.T, what string, err error, kind api.Errno, at int) {
	t.Helper()
	var f *api.Fault
	if !errors.As(err, &f) {
		t.Errorf("%s: got %v, want errno %d at %d", what, err, kind, at)
		return
	}
	if f.Kind != kind || f.At != at || !errors.Is(err, kind) || f.Inner != nil {
		t.Errorf("%s: got errno %d at %d, want %d at %d", what, f.Kind, f.At, kind, at)
	}
}

// P1.1: what is wrong with the place comes ahead of what stands there.
func TestNextPlace(t *testing.T) {
	b := []byte("a\x80")
	for _, c := range []struct {
		at   int
		kind api.Errno
	}{{math.MinInt, api.ErrArg}, {-1, api.ErrArg}, {3, api.ErrArg}, {math.MaxInt, api.ErrArg}, {2, api.ErrShort}, {1, api.ErrUTF}} {
		char, size, err := utf.Next(b, c.at)
		wrong(t, "Next", err, c.kind, c.at)
		same(t, "char and size beside an error", [2]int{char, size}, [2]int{})
	}
	_, _, err := utf.Next(nil, 0)
	wrong(t, "Next of nothing", err, api.ErrShort, 0)
	_, _, err = utf.Next(nil, 1)
	wrong(t, "Next behind nothing", err, api.ErrArg, 1)
}

// P1.1: the room of a slice is none of its bytes.
func TestNextEndsWithTheBytes(t *testing.T) {
	b := []byte("a€")
	_, _, err := utf.Next(b[:3], 1)
	wrong(t, "Next of a character cut off", err, api.ErrUTF, 1)
	_, _, err = utf.Next(b[:1], 1)
	wrong(t, "Next at the end", err, api.ErrShort, 1)
}

// P1.1: of every character, at the end of the bytes and with more behind it.
func TestNextOfEveryCharacter(t *testing.T) {
	for n := 0; n <= 0x10ffff; n++ {
		b := append(append([]byte{'x'}, bytesOf(n)...), 0x80)
		for _, s := range [][]byte{b, b[:len(b)-1]} {
			char, size, err := utf.Next(s, 1)
			if isChar(n) && (char != n || size != len(bytesOf(n)) || err != nil) {
				t.Fatalf("%#x: got %#x, %d, %v", n, char, size, err)
			}
			if !isChar(n) && !errors.Is(err, api.ErrUTF) {
				t.Fatalf("%#x: got %#x, %d, %v", n, char, size, err)
			}
		}
	}
}

// P1.1: every first byte with the edges of the bytes behind it: a character stands there exactly if the rule gives these bytes.
func TestNextOfAllBeginnings(t *testing.T) {
	edges := []byte{0, 'a', 0x7f, 0x80, 0x8f, 0x90, 0x9f, 0xa0, 0xbf, 0xc0, 0xff}
	for first := range 256 {
		for _, x := range edges {
			for _, y := range edges {
				for _, z := range edges {
					nextAsRule(t, []byte{byte(first), x, y, z})
				}
			}
		}
	}
}

func nextAsRule(t *testing.T, b []byte) {
	bits := func(c byte) int { return int(c & 0x3f) }
	want := map[string]int{}
	for _, n := range []int{
		int(b[0]),
		int(b[0]&0x1f)<<6 | bits(b[1]),
		int(b[0]&0x0f)<<12 | bits(b[1])<<6 | bits(b[2]),
		int(b[0]&0x07)<<18 | bits(b[1])<<12 | bits(b[2])<<6 | bits(b[3]),
	} {
		if isChar(n) && bytes.HasPrefix(b, bytesOf(n)) {
			want[string(bytesOf(n))] = n
		}
	}
	char, size, err := utf.Next(b, 0)
	if len(want) == 0 {
		if !errors.Is(err, api.ErrUTF) || char != 0 || size != 0 {
			t.Errorf("%x: got %#x, %d, %v", b, char, size, err)
		}
		return
	}
	if n, ok := want[string(b[:size])]; !ok || n != char || err != nil {
		t.Errorf("%x: got %#x, %d, %v", b, char, size, err)
	}
}

// P1.2, and the chapter's first example.
func TestValidAndChars(t *testing.T) {
	same(t, "Valid of nothing", utf.Valid(nil), error(nil))
	char, size, err := utf.Next([]byte{0xe2, 0x82, 0xac}, 0)
	if char != 0x20ac || size != 3 || err != nil {
		t.Errorf("got %#x, %d, %v", char, size, err)
	}
	wrong(t, "Valid", utf.Valid([]byte{'a', 0xc0, 0x80}), api.ErrUTF, 1)
	for _, s := range []string{"a", "aé€😀", "\x00\x7f", "\xed\x9f\xbf\xee\x80\x80\xef\xbf\xbd\xf4\x8f\xbf\xbf"} {
		same(t, "Valid", utf.Valid([]byte(s)), error(nil))
		var want []int
		for _, r := range s {
			want = append(want, int(r))
		}
		list, err := utf.Chars([]byte(s))
		same(t, "Chars", list, want)
		same(t, "Chars' error", err, error(nil))
	}
	list, err := utf.Chars(nil)
	if len(list) != 0 || err != nil {
		t.Errorf("Chars of nothing: %v, %v", list, err)
	}
}

// P1.2: the first place counts, even where more is wrong behind it, and it is a place of bytes, not of characters.
func TestFirstWrongPlace(t *testing.T) {
	for _, ahead := range []string{"", "a", "é", "a€", "😀😀"} {
		for _, s := range bad {
			for _, behind := range []string{"", "a", "\xff", "é"} {
				b := []byte(ahead + s + behind)
				wrong(t, "Valid of "+string(b), utf.Valid(b), api.ErrUTF, len(ahead))
				list, err := utf.Chars(b)
				wrong(t, "Chars of "+string(b), err, api.ErrUTF, len(ahead))
				if list != nil {
					t.Errorf("%q: %v beside an error", b, list)
				}
			}
		}
	}
}

// P1.3
func TestPut(t *testing.T) {
	for n := 0; n <= 0x10ffff; n++ {
		b, err := utf.Put(n)
		if isChar(n) && (!bytes.Equal(b, bytesOf(n)) || err != nil) {
			t.Fatalf("%#x: got %x, %v", n, b, err)
		}
		if !isChar(n) && (b != nil || !errors.Is(err, api.ErrRange)) {
			t.Fatalf("%#x: got %x, %v", n, b, err)
		}
	}
	for _, n := range noChars {
		b, err := utf.Put(n)
		wrong(t, "Put", err, api.ErrRange, 0)
		if b != nil {
			t.Errorf("%#x: %x beside an error", n, b)
		}
	}
}

// P1.3
func TestText(t *testing.T) {
	var want []byte
	for _, n := range edgeChars {
		want = append(want, bytesOf(n)...)
	}
	b, err := utf.Text(edgeChars)
	same(t, "Text", b, want)
	same(t, "Text's error", err, error(nil))
	b, err = utf.Text(nil)
	if len(b) != 0 || err != nil {
		t.Errorf("Text of nothing: %x, %v", b, err)
	}
	for _, n := range noChars {
		b, err := utf.Text([]int{0x20ac, 'a', n, -1, 'b'})
		wrong(t, "Text", err, api.ErrRange, 2)
		if b != nil {
			t.Errorf("%#x: %x beside an error", n, b)
		}
	}
}

// P1.3: there and back.
func TestTextOfCharsOfText(t *testing.T) {
	b, err := utf.Text(edgeChars)
	if err != nil {
		t.Fatal(err)
	}
	list, err := utf.Chars(b)
	same(t, "Chars of Text", list, edgeChars)
	same(t, "Chars' error", err, error(nil))
	again, err := utf.Text(list)
	same(t, "Text of Chars", again, b)
	same(t, "Text's error", err, error(nil))
}

// P1.4
func TestHalvesAndWhole(t *testing.T) {
	for n := 0x10000; n <= 0x10ffff; n++ {
		high, low, ok := utf.Halves(n)
		if high != 0xd800+(n-0x10000)/1024 || low != 0xdc00+(n-0x10000)%1024 || !ok {
			t.Fatalf("%#x: got %#x, %#x, %v", n, high, low, ok)
		}
		if char, ok := utf.Whole(high, low); char != n || !ok {
			t.Fatalf("%#x, %#x: got %#x, %v", high, low, char, ok)
		}
	}
	for _, n := range append([]int{0, 'a', 0xd7ff, 0xe000, 0xffff}, noChars...) {
		if high, low, ok := utf.Halves(n); high != 0 || low != 0 || ok {
			t.Errorf("%#x: got %#x, %#x, %v", n, high, low, ok)
		}
	}
}

// P1.4
func TestWholeOfNoHalves(t *testing.T) {
	for _, c := range [][2]int{
		{0xd7ff, 0xdc00}, {0xdc00, 0xdc00}, {0xd800, 0xdbff}, {0xd800, 0xe000}, {0xdc00, 0xd800},
		{0xd800, 0xd800}, {0, 0}, {'a', 'b'}, {-1, 0xdc00}, {0xd800, -1},
		{math.MinInt, math.MaxInt}, {math.MaxInt, math.MinInt}, {1<<32 + 0xd800, 0xdc00}, {0xd800, 1<<32 + 0xdc00},
	} {
		if char, ok := utf.Whole(c[0], c[1]); char != 0 || ok {
			t.Errorf("%#x, %#x: got %#x, %v", c[0], c[1], char, ok)
		}
	}
}

// P1.4
func TestHalf(t *testing.T) {
	for n, want := range map[int]int{
		math.MinInt: 0, -1: 0, 0: 0, 'a': 0, 0xd7ff: 0, 0xd800: 1, 0xd9ab: 1, 0xdbff: 1,
		0xdc00: 2, 0xddef: 2, 0xdfff: 2, 0xe000: 0, 0x10d800: 0, 1<<32 + 0xd800: 0, math.MaxInt: 0,
	} {
		if got := utf.Half(n); got != want {
			t.Errorf("%#x: got %d, want %d", n, got, want)
		}
	}
}

// P1.5: neither what is handed in nor its spare room is written to, nor kept.
func TestHandedInStays(t *testing.T) {
	room := []byte("aé€😀bcdefgh")
	b, before := room[:10], string(room)
	utf.Next(b, 1)
	utf.Valid(b)
	list, _ := utf.Chars(b)
	want := slices.Clone(list)
	same(t, "the bytes", string(room), before)
	clear(room)
	same(t, "the characters, when the bytes are written over", list, want)

	ints := []int{'a', 0x20ac, 'b', 'c'}
	text, _ := utf.Text(ints[:2])
	same(t, "the list", ints, []int{'a', 0x20ac, 'b', 'c'})
	clear(ints)
	same(t, "the text, when the list is written over", string(text), "a€")
}

// P1.5: answers are by themselves, their spare room too.
func TestAnswersAreNew(t *testing.T) {
	in, chars := []byte("aé€"), []int{'a', 'b', 0x20ac}
	listA, _ := utf.Chars(in)
	listB, _ := utf.Chars(in)
	clear(listA[:cap(listA)])
	same(t, "Chars", listB, []int{'a', 0xe9, 0x20ac})
	same(t, "the bytes", string(in), "aé€")

	textA, _ := utf.Text(chars)
	textB, _ := utf.Text(chars)
	clear(textA[:cap(textA)])
	same(t, "Text", string(textB), "ab€")
	same(t, "the list", chars, []int{'a', 'b', 0x20ac})

	putA, _ := utf.Put('a')
	putB, _ := utf.Put('a')
	clear(putA[:cap(putA)])
	same(t, "Put", string(putB), "a")

	errA, errB := utf.Valid([]byte{0xff}), utf.Valid([]byte{0xff})
	errA.(*api.Fault).At = 9
	wrong(t, "Valid", errB, api.ErrUTF, 0)
}

// P1 and P2: all calls end, none panics, and a second run answers what the first one did.
func TestAnyArguments(t *testing.T) {
	texts := append([]string{"", "a", "aé€😀"}, bad...)
	numbers := append([]int{0, 1, 2, 3, 4, 5}, append(noChars, edgeChars...)...)
	run := func() []any {
		var all []any
		keep := func(answers ...any) { all = append(all, answers...) }
		for _, s := range texts {
			list, err := utf.Chars([]byte(s))
			keep(list, err, utf.Valid([]byte(s)))
			for _, at := range numbers {
				char, size, err := utf.Next([]byte(s), at)
				keep(char, size, err)
			}
		}
		for _, n := range numbers {
			b, err := utf.Put(n)
			high, low, ok := utf.Halves(n)
			keep(b, err, high, low, ok, utf.Half(n))
			for _, m := range numbers {
				text, err := utf.Text([]int{n, m})
				char, ok := utf.Whole(n, m)
				keep(text, err, char, ok)
			}
		}
		return all
	}
	same(t, "the second run", run(), run())
}
