package glob_test

import (
	"errors"
	"reflect"
	"regexp"
	"strconv"
	"strings"
	"testing"
	"time"
	"unicode/utf8"
	"unsafe"

	"waybill/api"
	"waybill/fold"
	"waybill/glob"
)

// wrongBytes are texts that aren't characters' bytes, with the place of the first wrong one.
var wrongBytes = map[string]int{
	"\xff": 0, "\x80": 0, "a\xc0\x80": 1, "é\xe2\x82": 2, "*?\xf0\x9f\x98a": 2, "\xed\xa0\x80": 0, "\xf4\x90\x80\x80": 0, "ab.\\\xc3": 4, "*\xff*": 1, "\\\xff": 1,
}

func same(t *testing.T, what string, got, want any) {
	t.Helper()
	if !reflect.DeepEqual(got, want) {
		t.Errorf("%q: got %#v, want %#v", what, got, want)
	}
}

// wrong asks for the error itself, and for what errors.Is and errors.As tell of it.
func wrong(t *testing.T, what string, err error, kind api.Errno, at int) {
	t.Helper()
	var f *api.Fault
	if !errors.As(err, &f) {
		t.Errorf("%q: got %v, want errno %d at %d", what, err, kind, at)
		return
	}
	if f.Kind != kind || f.At != at || !errors.Is(err, kind) {
		t.Errorf("%q: got errno %d at %d, want %d at %d", what, f.Kind, f.At, kind, at)
	}
}

// words are all texts of at most so many of the letters, the empty one among them.
func words(letters []string, most int) []string {
	all, from := []string{""}, 0
	for range most {
		to := len(all)
		for _, w := range all[from:to] {
			for _, l := range letters {
				all = append(all, w+l)
			}
		}
		from = to
	}
	return all
}

func match(t *testing.T, pattern, s string, folds, want bool) {
	t.Helper()
	same(t, "Match of "+pattern+" and "+s+", fold "+strconv.FormatBool(folds), glob.Match(pattern, s, folds), want)
}

func simple(t *testing.T, pattern, s string, want bool) {
	t.Helper()
	same(t, "Simple of "+pattern+" and "+s, glob.Simple(pattern, s), want)
}

// P15.1: any characters are a pattern.
func TestCheck(t *testing.T) {
	for _, p := range []string{"", "*", "?", "**", "a*b?c", "\\", "a\\", "\x00", "\n", "é€😀", "[a-z]", "$(x)", "%zz", "\ufffd", strings.Repeat("*", 1024), strings.Repeat("é", 512)} {
		same(t, "Check of "+p, glob.Check(p), error(nil))
	}
}

// P15.1: the size is told ahead of the bytes, and these ahead of stars and backslashes.
func TestErrorsOfBoth(t *testing.T) {
	both := func(p string, kind api.Errno, at int) {
		t.Helper()
		wrong(t, "Check of "+p, glob.Check(p), kind, at)
		wrong(t, "CheckSimple of "+p, glob.CheckSimple(p), kind, at)
	}
	for _, p := range []string{strings.Repeat("a", 1025), strings.Repeat("a", 99999), strings.Repeat("*", 1025), strings.Repeat("\xff", 1025), strings.Repeat("é", 512) + "a", strings.Repeat("a", 1023) + "é", strings.Repeat("a", 1024) + "\\"} {
		both(p, api.ErrLong, 1024)
	}
	for p, at := range wrongBytes {
		both(p, api.ErrUTF, at)
		both("a*"+p, api.ErrUTF, at+2)
	}
	for _, p := range []string{"**\xff", "a**\xff", "*a\\\xff"} {
		both(p, api.ErrUTF, strings.IndexByte(p, 0xff))
	}
	both(strings.Repeat("a", 1023)+"\xff", api.ErrUTF, 1023)
	both(strings.Repeat("a", 1023)+"\xc3", api.ErrUTF, 1023)
}

// P15.1
func TestCheckSimple(t *testing.T) {
	for _, p := range []string{"", ".", "a", ".*", "a*", "a*b*", "a.*", "..", ".*.*", "\\.", "\\*", "\\\\", "\\a", "\\**", "\\\\*", "\\.*", "\\é*", "é*", "?", "?*", "+", "[", "\\\\\\\\", "\\**\\*", strings.Repeat("a*", 512), strings.Repeat("\\", 1024)} {
		same(t, "CheckSimple of "+p, glob.CheckSimple(p), error(nil))
	}
	for p, at := range map[string]int{
		"*": 0, "**": 0, "*a": 0, "*\\": 0, "a**": 2, "a*b**": 4, "a***": 2, "é**": 3, "😀**": 5, ".**": 2, "\\***": 3, "\\\\**": 3, "\\***\\": 3, "ab*c**d**": 5, "a**\\": 2, strings.Repeat("a*", 511) + "*": 1022,
	} {
		wrong(t, "CheckSimple of "+p, glob.CheckSimple(p), api.ErrForm, at)
	}
	for _, p := range []string{"\\", "a\\", "é\\", "a*\\", "\\\\\\", "\\*\\", "\\**\\", ".\\", strings.Repeat("a", 1023) + "\\"} {
		wrong(t, "CheckSimple of "+p, glob.CheckSimple(p), api.ErrShort, len(p))
	}
}

// onePart is the chapter's rule for a part, as an expression of the language's own library: what it stands for, and its star.
const onePart = `(\\.|[^\\*])(\*?)`

var (
	eachPart   = regexp.MustCompile(`(?s)` + onePart)
	firstParts = regexp.MustCompile(`(?s)^(?:` + onePart + `)*`)
)

// expression writes a right pattern with points and stars for the language's own library.
func expression(p string) *regexp.Regexp {
	text := ""
	for _, m := range eachPart.FindAllStringSubmatch(p, -1) {
		char := m[1]
		if char != "." {
			char = regexp.QuoteMeta(strings.TrimPrefix(char, "\\"))
		}
		text += char + m[2]
	}
	return regexp.MustCompile(`(?s)^(?:` + text + `)$`)
}

// P15.1: of all short patterns.
func TestCheckSimpleOfAll(t *testing.T) {
	for _, p := range words([]string{"a", "é", ".", "*", "\\"}, 6) {
		right := len(firstParts.FindString(p))
		switch err := glob.CheckSimple(p); {
		case right == len(p):
			same(t, "CheckSimple of "+p, err, error(nil))
		case p[right] == '*':
			wrong(t, "CheckSimple of "+p, err, api.ErrForm, right)
		default:
			wrong(t, "CheckSimple of "+p, err, api.ErrShort, len(p))
		}
	}
}

// P15.2, and the chapter's first example.
func TestMatch(t *testing.T) {
	for _, c := range []struct {
		pattern, s string
		want       bool
	}{
		{"/buy/?*", "/buy/1", true}, {"/buy/?*", "/buy/", false}, {"/buy/?*", "/buy", false}, {"/buy/?*", "/buy/12/3", true},
		{"", "", true}, {"", "a", false}, {"a", "", false}, {"a", "a", true}, {"a", "b", false}, {"a", "aa", false}, {"aa", "a", false}, {"ab", "ab", true}, {"ab", "ba", false},
		{"*", "", true}, {"*", "a", true}, {"*", "a\n/\x00é😀", true}, {"**", "", true}, {"**", "ab", true}, {"?", "", false}, {"?", "ab", false}, {"??", "ab", true}, {"??", "a", false},
		{"?", "é", true}, {"?", "😀", true}, {"??", "é", false}, {"?", "\n", true}, {"?", "\ufffd", true}, {"?", "e\u0301", false}, {"é", "é", true}, {"é", "è", false},
		{"*a", "a", true}, {"*a", "aaa", true}, {"*a", "ab", false}, {"a*", "a", true}, {"a*", "ba", false}, {"a*a", "a", false}, {"a*a", "aa", true}, {"a*b*c", "a1b2b3c", true}, {"a*b*c", "a1b2b3", false}, {"*?", "", false}, {"?*?", "a", false}, {"?*?", "ab", true}, {"*ab", "aab", true}, {"*aab", "aaab", true}, {"*aba*", "ababab", true},
		{"*", "*", true}, {"?", "?", true}, {"a", "*", false}, {"\\*", "\\ab", true}, {"\\*", "*", false}, {".", "a", false}, {".", ".", true}, {"[a]", "a", false}, {"[a]", "[a]", true}, {"$(a)", "$(a)", true}, {"a b", "a b", true}, {"%41", "A", false},
		{strings.Repeat("?", 1024), strings.Repeat("é", 1024), true}, {strings.Repeat("?", 1024), strings.Repeat("a", 1023), false}, {strings.Repeat("*", 1024), strings.Repeat("a", 9999), true}, {strings.Repeat("*", 1025), "", false}, {strings.Repeat("a", 1024), strings.Repeat("a", 1024), true}, {strings.Repeat("a", 1025), strings.Repeat("a", 1025), false}, {strings.Repeat("é", 513), strings.Repeat("é", 513), false},
	} {
		match(t, c.pattern, c.s, false, c.want)
		match(t, c.pattern, c.s, true, c.want)
	}
}

// P15.2: what isn't right is in no language, and has none, be it the same.
func TestMatchOfWrongBytes(t *testing.T) {
	for s := range wrongBytes {
		for _, folds := range []bool{false, true} {
			match(t, s, s, folds, false)
			match(t, "*", s, folds, false)
			match(t, "*"+s, "a", folds, false)
			match(t, strings.ReplaceAll(s, "\xff", "\ufffd"), s, folds, false)
		}
		simple(t, s, s, false)
		simple(t, ".*", s, false)
		simple(t, ".*"+s, "a", false)
	}
	match(t, "?", "\xff", false, false)
	match(t, "\ufffd", "\xff", false, false)
	match(t, "a", "a\xff", false, false)
	simple(t, "\ufffd", "\xff", false)
	match(t, "*", strings.Repeat("a", 9999)+"\xff", false, false)
}

// cuts is the chapter's rule for a pattern, in the words of a text's cuttings.
func cuts(pattern, s []rune) bool {
	if len(pattern) == 0 {
		return len(s) == 0
	}
	switch c := pattern[0]; {
	case c == '*':
		for i := range len(s) + 1 {
			if cuts(pattern[1:], s[i:]) {
				return true
			}
		}
		return false
	case len(s) == 0 || c != '?' && c != s[0]:
		return false
	default:
		return cuts(pattern[1:], s[1:])
	}
}

// P15.2: of all short patterns and texts.
func TestMatchOfAll(t *testing.T) {
	texts := words([]string{"a", "B", "é", "*"}, 4)
	for _, p := range words([]string{"a", "b", "é", "*", "?"}, 5) {
		for _, s := range texts {
			if got := glob.Match(p, s, false); got != cuts([]rune(p), []rune(s)) {
				t.Fatalf("Match of %q and %q: got %v", p, s, got)
			}
			small := strings.ReplaceAll(s, "B", "b")
			if got := glob.Match(p, s, true); got != cuts([]rune(p), []rune(small)) {
				t.Fatalf("Match of %q and %q with fold: got %v", p, s, got)
			}
		}
	}
}

// P15.2: of every two characters of ASCII, and of others whose great and small letters are two.
func TestFold(t *testing.T) {
	for a := range 128 {
		for b := range 128 {
			p, s := string(rune(a)), string(rune(b))
			free := p == "*" || p == "?"
			match(t, p, s, false, free || a == b)
			match(t, p, s, true, free || fold.Same(p, s))
		}
	}
	for _, c := range []struct{ p, s string }{{"É", "é"}, {"é", "É"}, {"k", "\u212a"}, {"\u212a", "K"}, {"s", "\u017f"}, {"ß", "ss"}, {"İ", "i"}, {"Ω", "ω"}, {"А", "а"}, {"ａ", "Ａ"}} {
		match(t, c.p, c.s, true, false)
		match(t, c.p, c.p, true, true)
	}
	for _, c := range []struct {
		p, s       string
		want, bare bool
	}{{"/Buy/*", "/bUY/X", true, false}, {"*Ab*", "xaBx", true, false}, {"a?C", "AéC", true, false}, {"*é", "Aé", true, true}, {"*X?", "xxy", true, false}, {"*X?", "xyy", false, false}, {"*X*", "xXx", true, true}} {
		match(t, c.p, c.s, true, c.want)
		match(t, c.p, c.s, false, c.bare)
	}
}

// P15.2, and the chapter's first example.
func TestSimple(t *testing.T) {
	for _, c := range []struct {
		pattern, s string
		want       bool
	}{
		{"/a.*b", "/ab", true}, {"/a.*b", "/axxb", true}, {"/a.*b", "/axx", false}, {"/a.*b", "a/ab", false}, {"/a.*b", "/a.*b", true},
		{"", "", true}, {"", "a", false}, {"a", "", false}, {"a", "a", true}, {"a", "A", false}, {"a", "aa", false}, {".", "", false}, {".", "a", true}, {".", "é", true}, {".", "\n", true}, {"..", "é", false}, {".", "ab", false}, {"?", "a", false}, {"?", "?", true}, {"?*", "", true}, {"?*", "???", true},
		{".*", "", true}, {".*", "a\nb😀", true}, {"a*", "", true}, {"a*", "aaa", true}, {"a*", "aab", false}, {"a*", "b", false}, {"é*", "éé", true}, {"é*", "éè", false}, {"a*a", "a", true}, {"a*a", "aaa", true}, {"a*a", "", false}, {"a*b*c*", "aabbc", true}, {"a*b*c*", "cb", false}, {".*.*", "x", true}, {"a*.", "aaa", true}, {"a*.b", "aaab", true}, {".*ab", "aab", true},
		{"\\.", ".", true}, {"\\.", "a", false}, {"\\.*", "...", true}, {"\\.*", "a", false}, {"\\*", "*", true}, {"\\*", "", false}, {"\\*", "\\", false}, {"\\**", "***", true}, {"\\**", "", true}, {"\\\\", "\\", true}, {"\\\\", "\\\\", false}, {"\\\\*", "\\\\\\", true}, {"\\\\.", "\\x", true}, {"\\a", "a", true}, {"\\a", "\\a", false}, {"\\é", "é", true}, {"a\\.b", "a.b", true}, {"a\\.b", "axb", false},
		{"*", "*", false}, {"*", "", false}, {"*a", "*a", false}, {"a**", "a", false}, {"a**", "a*", false}, {"a\\", "a\\", false}, {"a\\", "a", false}, {"\\", "", false}, {"\\***", "*", false},
		{strings.Repeat(".", 1024), strings.Repeat("é", 1024), true}, {strings.Repeat("a*", 512), strings.Repeat("a", 9999), true}, {strings.Repeat("a*", 512) + "b", "b", false}, {strings.Repeat("a", 1025), strings.Repeat("a", 1025), false},
	} {
		simple(t, c.pattern, c.s, c.want)
	}
}

// P15.2: of all short patterns and texts, held against the language's own library, which reads such patterns alike.
func TestSimpleOfAll(t *testing.T) {
	texts := words([]string{"a", "é", "*", ".", "\\"}, 3)
	for _, p := range words([]string{"a", "é", ".", "*", "\\"}, 5) {
		if len(firstParts.FindString(p)) < len(p) {
			for _, s := range append(texts, p) {
				simple(t, p, s, false)
			}
			continue
		}
		x := expression(p)
		for _, s := range append(texts, "aaaa", "aéaé", "a.*\\") {
			if got := glob.Simple(p, s); got != x.MatchString(s) {
				t.Fatalf("Simple of %q and %q: got %v", p, s, got)
			}
		}
	}
}

// P15.3
func TestLead(t *testing.T) {
	for p, want := range map[string]string{
		"": "", "a": "a", "*": "", "?": "", "/a/?b*": "/a/", "/a*?": "/a", "a?*": "a", "*a": "", "é€*": "é€", "a\\*b": "a\\", "a.b": "a.b", "abcdefghijk": "abcdefghijk", "abcdefghijk?l": "abcdefghijk", "😀?😀*": "😀",
		strings.Repeat("a", 2000): strings.Repeat("a", 2000), strings.Repeat("a", 2000) + "*": strings.Repeat("a", 2000), "\xff*": "\xff", "a\xe2?\xff": "a\xe2", "\xff": "\xff",
	} {
		same(t, "Lead of "+p, glob.Lead(p), want)
	}
}

// P15.3
func TestLeast(t *testing.T) {
	for p, want := range map[string]int{
		"": 0, "a": 1, "*": 0, "***": 0, "?": 1, "??": 2, "a?*é": 3, "*é*€*😀*": 3, "\\*": 1, ".": 1, "\x00": 1, "*a*": 1,
		strings.Repeat("a", 1024): 1024, strings.Repeat("?", 1024): 1024, strings.Repeat("é", 512): 512, strings.Repeat("*", 1024): 0, strings.Repeat("a", 1025): 0, strings.Repeat("é", 513): 0, strings.Repeat("a", 1023) + "é": 0,
	} {
		same(t, "Least of "+p, glob.Least(p), want)
	}
	for p := range wrongBytes {
		same(t, "Least of "+p, glob.Least("abc"+p), 0)
	}
}

// P15.3: all texts in a pattern's language begin with its Lead, and have at least so many characters; one has no more.
func TestLeadAndLeastOfAll(t *testing.T) {
	texts := words([]string{"a", "é"}, 5)
	for _, p := range words([]string{"a", "é", "*", "?"}, 5) {
		lead, least := glob.Lead(p), glob.Least(p)
		met := false
		for _, s := range texts {
			if !glob.Match(p, s, false) {
				continue
			}
			n := utf8.RuneCountInString(s)
			met = met || n == least
			if !strings.HasPrefix(s, lead) || n < least {
				t.Fatalf("%q: Lead %q, Least %d, but %q is in its language", p, lead, least, s)
			}
		}
		same(t, "whether a text of "+p+" has no more", met, true)
	}
}

// P15.3
func TestQuote(t *testing.T) {
	for s, want := range map[string]string{
		"": "", "a": "a", ".": "\\.", "*": "\\*", "\\": "\\\\", "a.b*\\": "a\\.b\\*\\\\", "?": "?", "**": "\\*\\*", "\\.": "\\\\\\.", "é.€": "é\\.€", "/a/b?c+[d]$(e)": "/a/b?c+[d]$(e)", "\xff.\xe2*": "\xff\\.\xe2\\*",
		strings.Repeat(".", 9999): strings.Repeat("\\.", 9999),
	} {
		same(t, "Quote of "+s, glob.Quote(s), want)
	}
}

// P15.3: what Quote gives means one text alone, as long as it isn't too long.
func TestSimpleOfQuote(t *testing.T) {
	texts := words([]string{"a", "é", "*", ".", "\\", "?"}, 3)
	for _, s := range texts {
		quoted := glob.Quote(s)
		same(t, "CheckSimple of Quote of "+s, glob.CheckSimple(quoted), error(nil))
		for _, other := range texts {
			simple(t, quoted, other, other == s)
		}
	}
	for s, want := range map[string]bool{strings.Repeat(".", 512): true, strings.Repeat(".", 512) + "a": false, strings.Repeat("*", 511) + "é": true, strings.Repeat("\\", 513): false, strings.Repeat("a", 1024): true, strings.Repeat("a", 1025): false, "\xff": false} {
		simple(t, glob.Quote(s), s, want)
	}
}

// share tells whether two texts lie in one memory.
func share(a, b string) bool {
	from := func(s string) uintptr { return uintptr(unsafe.Pointer(unsafe.StringData(s))) }
	return a != "" && b != "" && from(a) < from(b)+uintptr(len(b)) && from(b) < from(a)+uintptr(len(a))
}

// P15.4
func TestAnswersAreNew(t *testing.T) {
	for _, s := range []string{"abcdef", "abc*def", "ab.c\\d"} {
		same(t, "whether Lead lies in "+s, share(glob.Lead(s), s), false)
		same(t, "whether Quote lies in "+s, share(glob.Quote(s), s), false)
	}
	errA, errB := glob.CheckSimple("a**"), glob.CheckSimple("a**")
	errA.(*api.Fault).At = 9
	wrong(t, "CheckSimple", errB, api.ErrForm, 2)
	long := strings.Repeat("a", 1025)
	errA, errB = glob.Check(long), glob.Check(long)
	errA.(*api.Fault).At = 9
	wrong(t, "Check", errB, api.ErrLong, 1024)
}

// P15.4: the product of the characters is some ten millions of steps: one that goes back and forth, or looks at each cutting, doesn't end in time.
func TestStepsAreFew(t *testing.T) {
	done := make(chan struct{})
	go func() {
		defer close(done)
		s := strings.Repeat("a", 50000)
		match(t, strings.Repeat("*a", 512), s+"b", false, false)
		match(t, strings.Repeat("*a", 512), s, true, true)
		match(t, "*"+strings.Repeat("?", 1023), s, false, true)
		match(t, strings.Repeat("*?", 511)+"b", s, false, false)
		simple(t, strings.Repeat("a*", 512), s+"b", false)
		simple(t, strings.Repeat(".*", 512), s, true)
		simple(t, strings.Repeat(".*a", 341), s+"b", false)
		simple(t, strings.Repeat("a*a", 341), s, true)
	}()
	select {
	case <-done:
	case <-time.After(time.Minute):
		t.Fatal("too many steps")
	}
}

// P1 and P2: all calls end, none panics, and a second run answers what the first one did.
func TestAnyArguments(t *testing.T) {
	texts := append(words([]string{"a", "*", "\\", "\xc3"}, 3), strings.Repeat("*", 1024), strings.Repeat("\\", 1025), strings.Repeat("a*", 512), strings.Repeat("\xff", 9999))
	for s := range wrongBytes {
		texts = append(texts, s)
	}
	run := func() []any {
		var all []any
		keep := func(answers ...any) { all = append(all, answers...) }
		for _, p := range texts {
			keep(glob.Check(p), glob.CheckSimple(p), glob.Lead(p), glob.Least(p), glob.Quote(p))
			for _, s := range texts {
				keep(glob.Match(p, s, false), glob.Match(p, s, true), glob.Simple(p, s))
			}
		}
		return all
	}
	same(t, "the second run", run(), run())
}
