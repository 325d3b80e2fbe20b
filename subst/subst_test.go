package subst_test

import (
	"errors"
	"reflect"
	"regexp"
	"slices"
	"strconv"
	"strings"
	"testing"
	"time"
	"unicode/utf8"
	"unsafe"

	"waybill/api"
	"waybill/glob"
	"waybill/subst"
)

const (
	greats = "ABCDEFGHIJKLMNOPQRSTUVWXYZ"
	smalls = "abcdefghijklmnopqrstuvwxyz"
	digits = "0123456789"
)

// owns are the variables that there are always, by the chapter's words: their characters, and how many of these.
var owns = map[string]struct {
	chars string
	size  int
}{
	"alpha": {greats + smalls, 1}, "upper": {greats, 1}, "lower": {smalls, 1}, "digit": {digits, 1},
	"alnum": {greats + smalls + digits, 1}, "xdigit": {digits + "abcdefABCDEF", 1}, "region": {greats, 2}, "lang": {smalls, 2},
}

// wrongBytes are texts that aren't characters' bytes, with the place of the first wrong one.
var wrongBytes = map[string]int{
	"\xff": 0, "\x80": 0, "a\xc0\x80": 1, "é\xe2\x82": 2, "*?\xf0\x9f\x98a": 2, "\xed\xa0\x80": 0, "\xf4\x90\x80\x80": 0,
}

// food is the chapter's example, with a second variable of its name, which doesn't count.
var food = []api.Var{{Name: "food", Values: []string{"pizza", "taco*"}}, {Name: "none"}, {Name: "food", Values: []string{"soup"}}, {Name: "Food", Values: []string{"Fish"}}}

func of(name string, values ...string) api.Var { return api.Var{Name: name, Values: values} }

func same(t *testing.T, what string, got, want any) {
	t.Helper()
	if !reflect.DeepEqual(got, want) {
		t.Errorf("%q: got %#v, want %#v", what, got, want)
	}
}

// texts holds lists against each other; a nil list and one without elements are one.
func texts(t *testing.T, what string, got, want []string) {
	t.Helper()
	if !slices.Equal(got, want) {
		t.Errorf("%q: got %q, want %q", what, got, want)
	}
}

// wrong asks for the error itself, and for what errors.Is and errors.As tell of it.
func wrong(t *testing.T, what string, err error, kind api.Errno, at int) {
	t.Helper()
	var f *api.Fault
	if !errors.As(err, &f) {
		t.Errorf("%q: got %v, want errno %d at %d", what, err, kind, at)
		return
	}
	if f.Kind != kind || f.At != at || !errors.Is(err, kind) {
		t.Errorf("%q: got errno %d at %d, want %d at %d", what, f.Kind, f.At, kind, at)
	}
}

func match(t *testing.T, pattern string, vars []api.Var, s string, folds, want bool) {
	t.Helper()
	same(t, "Match of "+pattern+" and "+s+", fold "+strconv.FormatBool(folds), subst.Match(pattern, vars, s, folds), want)
}

// words are all texts of at most so many of the letters, the empty one among them.
func words(letters []string, most int) []string {
	all, from := []string{""}, 0
	for range most {
		to := len(all)
		for _, w := range all[from:to] {
			for _, l := range letters {
				all = append(all, w+l)
			}
		}
		from = to
	}
	return all
}

// P19.1
func TestOwn(t *testing.T) {
	for name := range owns {
		same(t, "Own of "+name, subst.Own(name), true)
		for _, other := range []string{strings.ToUpper(name), " " + name, name + " ", name[:len(name)-1], name + "s", name + "\x00", "$(" + name + ")"} {
			same(t, "Own of "+other, subst.Own(other), false)
		}
	}
	for _, name := range []string{"", "a", "letter", "Region", "hex", "*", "\xff", strings.Repeat("alpha", 999)} {
		same(t, "Own of "+name, subst.Own(name), false)
	}
}

// P19.1
func TestCheckVar(t *testing.T) {
	for _, v := range []api.Var{
		of("a"), of("a", ""), of("food", "pizza", "taco*", "?"), of("a b", "a b"), of("*", "*"), of("é€😀", "é€😀"), of(" ", " "), of("Alpha", "x"), of("alpha ", "x"), of("[", "[(a)]"), of("\n", "\x00"),
		of(strings.Repeat("a", 64)), of(strings.Repeat("é", 32)), of("a", "x", "x"), of("a", strings.Repeat("v", 1024)), {Name: "a", Values: make([]string, 256)}, {Name: "a", Values: []string{}},
	} {
		same(t, "CheckVar of "+v.Name, subst.CheckVar(v), error(nil))
	}
}

// P19.1
func TestCheckVarName(t *testing.T) {
	names := []string{"", "$", "(", ")", "a$", "$a", "a(b", "a)b", "$(a)", "(a)", strings.Repeat("a", 65), strings.Repeat("é", 32) + "a", strings.Repeat("é", 33), strings.Repeat("a", 9999), "alpha", "upper", "lower", "digit", "alnum", "xdigit", "region", "lang"}
	for name := range wrongBytes {
		names = append(names, name, "a"+name)
	}
	for _, name := range names {
		for _, values := range [][]string{nil, {"a"}, {"$"}, {"\xff"}, make([]string, 257)} {
			wrong(t, "CheckVar of "+name, subst.CheckVar(api.Var{Name: name, Values: values}), api.ErrName, 0)
		}
	}
}

// P19.1
func TestCheckVarValues(t *testing.T) {
	for _, n := range []int{257, 258, 9999} {
		values := make([]string, n)
		wrong(t, "CheckVar of many values", subst.CheckVar(of("a", values...)), api.ErrMany, 256)
		values[0] = "$"
		wrong(t, "CheckVar of many values, one wrong", subst.CheckVar(of("a", values...)), api.ErrMany, 256)
	}
	long := strings.Repeat("v", 1025)
	for _, c := range []struct {
		values []string
		at     int
		from   error
	}{
		{[]string{"$"}, 0, nil}, {[]string{"a$b"}, 0, nil}, {[]string{"$(alpha)"}, 0, nil}, {[]string{"a", "b", "c$"}, 2, nil},
		{[]string{"\xff"}, 0, api.ErrUTF}, {[]string{"", "*", "a\xc0\x80"}, 2, api.ErrUTF}, {[]string{"a", long}, 1, api.ErrLong}, {[]string{long + "\xff"}, 0, api.ErrLong},
		{[]string{"a", "$", "\xff"}, 1, nil}, {[]string{"a", "\xff", "$"}, 1, api.ErrUTF}, {[]string{"a", "b$\xff"}, 1, nil}, {[]string{long + "$"}, 0, nil},
		{append(make([]string, 255), "$"), 255, nil}, {append(make([]string, 255), "\xff"), 255, api.ErrUTF},
	} {
		err := subst.CheckVar(of("a", c.values...))
		wrong(t, "CheckVar of "+c.values[c.at], err, api.ErrForm, c.at)
		if c.from != nil {
			same(t, "the error of "+c.values[c.at]+" came from that", errors.Is(err, c.from), true)
			same(t, "the error within "+c.values[c.at], errors.Unwrap(err), glob.Check(c.values[c.at]))
		}
	}
}

// P19.2
func TestNames(t *testing.T) {
	for pattern, want := range map[string][]string{
		"": {}, "a": {}, "$": {}, "$$": {}, "$a": {}, "(a)": {}, "$ (a)": {}, "a$": {}, "$)": {}, "$(": {}, "$(a": {}, "a$(b$(c": {}, "*?": {},
		"$(a)": {"a"}, "$()": {""}, "$(a)$(b)": {"a", "b"}, "$(b)x$(a)y$(b)": {"b", "a", "b"}, "$(a)$(a)$(a)": {"a", "a", "a"}, "$(alpha)$(huh)": {"alpha", "huh"}, "$(b c)$( )": {"b c", " "},
		"$$(a)": {"a"}, "$(a))": {"a"}, "$(a)$": {"a"}, "$(a)$(b": {"a"}, "$($(d)": {"$(d"}, "$(()": {"("}, "$(a(b)c)": {"a(b"}, "$($)": {"$"}, "$(*)?$(?)": {"*", "?"}, "$(é)$(€": {"é"}, "$(A)$(a)": {"A", "a"},
		"\xff$(\xfe)": {"\xfe"}, strings.Repeat("x", 2000) + "$(a)": {"a"}, "$(" + strings.Repeat("n", 2000) + ")": {strings.Repeat("n", 2000)},
	} {
		texts(t, "Names of "+pattern, subst.Names(pattern), want)
	}
	texts(t, "Names of many", subst.Names(strings.Repeat("$(a)b", 5000)), slices.Repeat([]string{"a"}, 5000))
	texts(t, "Names of none", subst.Names(strings.Repeat("$(", 50000)), nil)
}

// nameOf is the chapter's rule for a variable, as an expression of the language's own library.
var nameOf = regexp.MustCompile(`(?s)\$\(([^)]*)\)`)

// P19.2: of all short patterns.
func TestNamesOfAll(t *testing.T) {
	for _, pattern := range words([]string{"$", "(", ")", "a", "*"}, 7) {
		var want []string
		for _, m := range nameOf.FindAllStringSubmatch(pattern, -1) {
			want = append(want, m[1])
		}
		if got := subst.Names(pattern); !slices.Equal(got, want) {
			t.Fatalf("Names of %q: got %q, want %q", pattern, got, want)
		}
	}
}

// P19.2
func TestCheck(t *testing.T) {
	vars := append(slices.Clone(food), of("", "x"), of("$(d", "x"), of("*", "x"), of("a b"), of("\xff"))
	for _, pattern := range []string{
		"", "*", "?", "$", "$$", "a$", "$a(", "()", "$)", "/$(food)/*", "$(Food)", "$(none)", "$()", "$($(d)", "$(*)", "$(a b)", "$$(food)", "$(food)$", "$(food))", "é$(food)€",
		"$(alpha)", "$(upper)$(lower)$(digit)$(alnum)$(xdigit)$(region)$(lang)", strings.Repeat("$(food)", 146), strings.Repeat("$", 1024),
	} {
		same(t, "Check of "+pattern, subst.Check(pattern, vars), error(nil))
	}
	for pattern, want := range map[string]struct {
		kind api.Errno
		at   int
	}{
		"$(": {api.ErrShort, 0}, "a$(": {api.ErrShort, 1}, "$(food": {api.ErrShort, 0}, "$$(food": {api.ErrShort, 1}, "$($(": {api.ErrShort, 0}, "é$(alpha": {api.ErrShort, 2}, "$(food)$(food": {api.ErrShort, 7}, "$(food)x$($(": {api.ErrShort, 8},
		"$(huh)": {api.ErrName, 0}, "€$(huh)": {api.ErrName, 3}, "$(food)$(huh)": {api.ErrName, 7}, "$(FOOD)": {api.ErrName, 0}, "$(food )": {api.ErrName, 0}, "$( )": {api.ErrName, 0}, "$(Alpha)": {api.ErrName, 0}, "$(alpha)$(ALPHA)": {api.ErrName, 8}, "$$(huh)": {api.ErrName, 1}, "$($(food)": {api.ErrName, 0}, "$(a(b)": {api.ErrName, 0},
		"$(huh)$(": {api.ErrName, 0}, "$(food)$(huh)$(": {api.ErrName, 7}, "$(x)$(y)": {api.ErrName, 0},
		strings.Repeat("a", 1022) + "$(": {api.ErrShort, 1022}, strings.Repeat("a", 1018) + "$(huh)": {api.ErrName, 1018},
		strings.Repeat("a", 1025): {api.ErrLong, 1024}, "$(huh)" + strings.Repeat("a", 1019): {api.ErrLong, 1024}, "$(" + strings.Repeat("a", 1023): {api.ErrLong, 1024}, "$(huh)\xff": {api.ErrUTF, 6}, "$(\xff)": {api.ErrUTF, 2}, "$(\xff": {api.ErrUTF, 2},
	} {
		wrong(t, "Check of "+pattern, subst.Check(pattern, vars), want.kind, want.at)
	}
	for pattern, at := range wrongBytes {
		wrong(t, "Check of "+pattern, subst.Check("$("+pattern, vars), api.ErrUTF, at+2)
	}
	wrong(t, "Check without variables", subst.Check("$(food)", nil), api.ErrName, 0)
	same(t, "Check of one's own without variables", subst.Check("$(lang)", nil), error(nil))
}

// P19.3, and the chapter's first example.
func TestMatch(t *testing.T) {
	vars := append(slices.Clone(food), of("any", "*"), of("one", "?", ""), of("mark", "(", ")", "."), of("x", "a", "ab", "abc"), of("sharp", "a$(x)", "$"), of("empty", ""), of("é", "é"), of("Two", "Aa", "bB"))
	for _, c := range []struct {
		pattern, s   string
		plain, alike bool
	}{
		{"/$(lang)/$(food)/*", "/en/tacos/1", true, true}, {"/$(lang)/$(food)/*", "/EN/pizza/", false, true}, {"/$(lang)/$(food)/*", "/en/pizza/", true, true}, {"/$(lang)/$(food)/*", "/en/pizza", false, false}, {"/$(lang)/$(food)/*", "/en/soup/", false, false}, {"/$(lang)/$(food)/*", "/eng/pizza/", false, false}, {"/$(lang)/$(food)/*", "/en/taco/a/b", true, true},
		{"", "", true, true}, {"", "a", false, false}, {"a", "", false, false}, {"a", "A", false, true}, {"A", "a", false, true}, {"a*b?", "axbc", true, true}, {"a*b?", "axb", false, false}, {"?", "é", true, true}, {"É", "é", false, false},
		{"$(food)", "pizza", true, true}, {"$(food)", "PIZZA", false, true}, {"$(food)", "pizza ", false, false}, {"$(food)", "taco", true, true}, {"$(food)", "taco/pizza", true, true}, {"$(food)", "", false, false}, {"$(food)", "$(food)", false, false}, {"$(food)", "food", false, false}, {"$(Food)", "Fish", true, true}, {"$(Food)", "fish", false, true}, {"$(Food)", "pizza", false, false},
		{"$(food)$(food)", "pizzapizza", true, true}, {"$(food)$(food)", "tacopizza", true, true}, {"$(food)$(food)", "pizzataco", true, true}, {"$(food)$(food)", "pizza", false, false}, {"$(food)$(Food)", "pizzaFish", true, true}, {"*$(food)*", "--pizza--", true, true}, {"*$(food)*", "--piza--", false, false}, {"$(food)pizza", "tacopizza", true, true}, {"$(food)?", "taco", false, false}, {"$(food)?", "tacos", true, true},
		{"$(none)", "", false, false}, {"*$(none)*", "a", false, false}, {"$(empty)", "", true, true}, {"a$(empty)b", "ab", true, true}, {"$(empty)", "a", false, false}, {"$(any)", "", true, true}, {"$(any)x$(any)", "axb", true, true}, {"$(any)x$(any)", "ab", false, false}, {"$(one)$(one)", "a", true, true}, {"$(one)$(one)", "abc", false, false}, {"$(one)", "é", true, true}, {"$(one)$(one)", "é😀", true, true},
		{"$(x)$(x)c", "aabc", true, true}, {"$(x)bc", "abc", true, true}, {"$(x)c", "abcc", true, true}, {"$(x)$(x)$(x)", "abcabca", true, true}, {"$(x)$(x)$(x)", "abcabcb", false, false}, {"*$(x)", "xyzab", true, true}, {"$(x)*$(x)", "a", false, false}, {"$(Two)$(Two)", "bBAa", true, true}, {"$(Two)$(Two)", "BBaa", false, true},
		{"$", "$", true, true}, {"$x", "$x", true, true}, {"$)", "$)", true, true}, {"$$(empty)(x)", "$(x)", true, true}, {"$$(mark)", "$(", true, true}, {"$$(mark)", "$.", true, true}, {"(food)", "(food)", true, true}, {"$(food))", "pizza)", true, true}, {"$(sharp)", "a$(x)", true, true}, {"$(sharp)", "aab", false, false}, {"$(sharp)", "$", true, true}, {"$(é)", "é", true, true}, {"$(é)", "É", false, false},
		{"$(huh)", "", false, false}, {"$(huh)", "$(huh)", false, false}, {"*$(huh)", "a", false, false}, {"$(", "$(", false, false}, {"*$(food", "a", false, false}, {"$(food)$(", "pizza$(", false, false}, {"$()", "", false, false}, {"$(FOOD)", "pizza", false, false},
		{"$(digit)$(digit)", "42", true, true}, {"$(digit)", "42", false, false}, {"$(digit)", "", false, false}, {"$(lang)_$(region)", "en_US", true, true}, {"$(lang)_$(region)", "EN_us", false, true}, {"$(lang)", "e", false, false}, {"$(lang)", "eng", false, false}, {"$(lang)", "e1", false, false}, {"$(lang)", "eN", false, true}, {"$(region)", "Us", false, true}, {"$(region)", "US", true, true}, {"$(region)", "ÉS", false, false}, {"$(alpha)*$(lower)", "A", false, false}, {"$(alpha)$(lang)$(alpha)", "abcd", true, true},
		{strings.Repeat("a", 1025), strings.Repeat("a", 1025), false, false}, {strings.Repeat("a", 1024), strings.Repeat("a", 1024), true, true}, {strings.Repeat("$(alnum)", 128), strings.Repeat("aZ09", 32), true, true}, {strings.Repeat("$(alnum)", 128), strings.Repeat("a", 127), false, false}, {"*" + strings.Repeat("$(any)", 100), strings.Repeat("é", 9999), true, true},
	} {
		match(t, c.pattern, vars, c.s, false, c.plain)
		match(t, c.pattern, vars, c.s, true, c.alike)
	}
}

// P19.3: those that there are always, of every character of ASCII, and of others.
func TestMatchOfOwn(t *testing.T) {
	var chars []string
	for c := range 0x180 {
		chars = append(chars, string(rune(c)))
	}
	chars = append(chars, "\u017f", "\u212a", "٣", "Ａ", "é", "€", "😀", "\ufffd", "$", "")
	for name, own := range owns {
		for _, c := range chars {
			in := c != "" && strings.Contains(own.chars, c)
			alike := in || c != "" && len(c) == 1 && (strings.Contains(own.chars, strings.ToLower(c)) || strings.Contains(own.chars, strings.ToUpper(c)))
			for n := range 4 {
				match(t, "$("+name+")", nil, strings.Repeat(c, n), false, in && n == own.size)
				match(t, "$("+name+")", nil, strings.Repeat(c, n), true, alike && n == own.size)
			}
			first := own.chars[:1]
			match(t, "$("+name+")", nil, first+c, false, own.size == 2 && in || own.size == 1 && c == "")
			match(t, "$("+name+")", nil, c+first, true, own.size == 2 && alike || own.size == 1 && c == "")
		}
	}
}

// P19.3: those that there are always come ahead of others of their names, as does the first of a name.
func TestMatchOfFirst(t *testing.T) {
	vars := []api.Var{of("alpha", "*"), of("lang", "1"), of("a", "x"), of("a", "y")}
	match(t, "$(alpha)", vars, "12", false, false)
	match(t, "$(alpha)", vars, "a", false, true)
	match(t, "$(lang)", vars, "1", false, false)
	match(t, "$(lang)", vars, "de", false, true)
	match(t, "$(a)", vars, "x", false, true)
	match(t, "$(a)", vars, "y", false, false)
	match(t, "$(a)", []api.Var{of("a"), of("a", "y")}, "y", false, false)
}

// P19.3: what isn't right is in no language; values that aren't right have none, the others of their variable do.
func TestMatchOfWrong(t *testing.T) {
	long := strings.Repeat("v", 1025)
	vars := []api.Var{of("any", "*"), of("a", "\xff", long, "$(a)", "ok", "*\xff"), of("\xff", "x"), of("ok", strings.Repeat("v", 1024)), {Name: "many", Values: append(make([]string, 300), "last")}}
	for s := range wrongBytes {
		for _, folds := range []bool{false, true} {
			match(t, "*", vars, s, folds, false)
			match(t, "$(any)", vars, s, folds, false)
			match(t, "$(any)", vars, "a"+s, folds, false)
			match(t, s, vars, s, folds, false)
			match(t, "$("+s+")", vars, "x", folds, false)
			match(t, "$(a)", []api.Var{of("a", s)}, s, folds, false)
			match(t, "$(a)", []api.Var{of("a", "*"+s)}, "", folds, false)
		}
	}
	match(t, "$(any)", vars, "\ufffd", false, true)
	match(t, "$(a)", vars, "\ufffd", false, false)
	match(t, "$(a)", vars, long, false, false)
	match(t, "$(ok)", vars, long[1:], false, true)
	match(t, "$(a)", vars, "$(a)", false, true)
	match(t, "$(a)", vars, "ok", false, true)
	match(t, "$(a)$(a)", vars, "ok$(a)", false, true)
	match(t, "$(many)", vars, "last", false, true)
	match(t, "$(many)", vars, "", false, true)
}

// piece tells whether a text is in the language of one part, by the chapter's words.
func piece(part string, vars []api.Var, s string, folds bool) bool {
	m := nameOf.FindStringSubmatch(part)
	if m == nil {
		return glob.Match(part, s, folds)
	}
	if own, ok := owns[m[1]]; ok {
		for _, c := range strings.Split(s, "") {
			if !strings.Contains(own.chars, c) && !(folds && strings.Contains(strings.ToLower(own.chars), strings.ToLower(c))) {
				return false
			}
		}
		return utf8.RuneCountInString(s) == own.size
	}
	i := slices.IndexFunc(vars, func(v api.Var) bool { return v.Name == m[1] })
	return slices.ContainsFunc(vars[i].Values, func(value string) bool { return glob.Match(value, s, folds) })
}

// cuts is the chapter's rule for a pattern: its parts, and all cuttings of a text.
func cuts(parts []string, vars []api.Var, s []rune, folds bool) bool {
	if len(parts) == 0 {
		return len(s) == 0
	}
	for i := range len(s) + 1 {
		if piece(parts[0], vars, string(s[:i]), folds) && cuts(parts[1:], vars, s[i:], folds) {
			return true
		}
	}
	return false
}

// cut gives a pattern's parts.
func cut(pattern string) []string {
	var parts []string
	at := 0
	for _, m := range nameOf.FindAllStringIndex(pattern, -1) {
		if m[0] > at {
			parts = append(parts, pattern[at:m[0]])
		}
		parts = append(parts, pattern[m[0]:m[1]])
		at = m[1]
	}
	if at < len(pattern) {
		parts = append(parts, pattern[at:])
	}
	return parts
}

// P19.3: of all patterns of few parts, and all short texts.
func TestMatchOfAll(t *testing.T) {
	vars := []api.Var{of("v", "", "a", "aé*", "?B"), of("w", "*a", "Bé"), of("none"), of("v", "aaa")}
	ss := words([]string{"a", "B", "é"}, 4)
	for _, pattern := range words([]string{"a", "b", "*", "?", "$(v)", "$(w)", "$(none)", "$(upper)", "$(lang)"}, 3) {
		parts := cut(pattern)
		for _, s := range ss {
			for _, folds := range []bool{false, true} {
				if got := subst.Match(pattern, vars, s, folds); got != cuts(parts, vars, []rune(s), folds) {
					t.Fatalf("Match of %q and %q, fold %v: got %v", pattern, s, folds, got)
				}
			}
		}
	}
}

// P19.3: without variables a pattern with variables is a pattern.
func TestMatchIsGlob(t *testing.T) {
	ss := words([]string{"a", "B", "$"}, 4)
	for _, pattern := range words([]string{"a", "b", "*", "?", "$", ")"}, 4) {
		for _, s := range ss {
			for _, folds := range []bool{false, true} {
				if got := subst.Match(pattern, nil, s, folds); got != glob.Match(pattern, s, folds) {
					t.Fatalf("Match of %q and %q, fold %v: got %v", pattern, s, folds, got)
				}
			}
		}
	}
}

// P1: one that goes back and forth, or looks at each cutting, doesn't end in time.
func TestStepsAreFew(t *testing.T) {
	done := make(chan struct{})
	go func() {
		defer close(done)
		vars := []api.Var{of("x", "a", "aa", "aaa", "*a", "a*"), of("all", slices.Repeat([]string{"*a*a*"}, 256)...)}
		s := strings.Repeat("a", 2000)
		match(t, strings.Repeat("$(x)", 250)+"b", vars, s, false, false)
		match(t, strings.Repeat("*$(x)", 200)+"b", vars, s, true, false)
		match(t, strings.Repeat("$(x)", 256), vars, s, false, true)
		match(t, strings.Repeat("$(all)", 20)+"b", vars, s, false, false)
		match(t, strings.Repeat("*$(alpha)", 100)+"b", vars, s, false, false)
	}()
	select {
	case <-done:
	case <-time.After(time.Minute):
		t.Fatal("too many steps")
	}
}

// P19.4
func TestExpand(t *testing.T) {
	vars := []api.Var{of("a", "1", "2", "3"), of("b", "x", "y"), of("none"), of("same", "s", "s"), of("empty", ""), of("a", "9"), of("lang", "de", "fr"), of("wrong", "\xff", "$(a)", strings.Repeat("v", 1025))}
	for _, c := range []struct {
		pattern string
		want    []string
	}{
		{"", []string{""}}, {"a*?$", []string{"a*?$"}}, {"$(a)", []string{"1", "2", "3"}}, {"$(b)$(b)", []string{"xx", "xy", "yx", "yy"}},
		{"/$(a)/$(b)/*", []string{"/1/x/*", "/1/y/*", "/2/x/*", "/2/y/*", "/3/x/*", "/3/y/*"}}, {"$(b)-$(a)", []string{"x-1", "x-2", "x-3", "y-1", "y-2", "y-3"}},
		{"$(lang)", []string{"$(lang)"}}, {"$(alpha)$(b)$(region)", []string{"$(alpha)x$(region)", "$(alpha)y$(region)"}}, {"$(b)$(digit)$(b)", []string{"x$(digit)x", "x$(digit)y", "y$(digit)x", "y$(digit)y"}},
		{"$(none)", nil}, {"$(a)$(none)$(a)$(a)$(a)$(a)", nil}, {"$(lang)$(none)", nil}, {"$(same)", []string{"s", "s"}}, {"a$(empty)b$(empty)", []string{"ab"}}, {"$$(b)", []string{"$x", "$y"}}, {"$(b))", []string{"x)", "y)"}},
		{"$(wrong)", []string{"\xff", "$(a)", strings.Repeat("v", 1025)}}, {strings.Repeat("$(empty)", 128), []string{""}},
	} {
		got, err := subst.Expand(c.pattern, vars, 9)
		same(t, "the error of Expand of "+c.pattern, err, nil)
		texts(t, "Expand of "+c.pattern, got, c.want)
	}
	got, err := subst.Expand("/$(lang)/$(food)/*", food, 2)
	same(t, "the error of the example", err, nil)
	texts(t, "the example", got, []string{"/$(lang)/pizza/*", "/$(lang)/taco*/*"})
}

// P19.4
func TestExpandErrors(t *testing.T) {
	vars := []api.Var{of("a", "1", "2", "3"), of("none"), {Name: "many", Values: make([]string, 256)}}
	for _, c := range []struct {
		pattern string
		most    int
		kind    api.Errno
		at      int
	}{
		{"a", 0, api.ErrArg, 0}, {"a", -1, api.ErrArg, 0}, {"$(none)", 0, api.ErrArg, 0}, {"\xff", 0, api.ErrArg, 0}, {"x$(", -9, api.ErrArg, 0}, {"$(a)", -1 << 63, api.ErrArg, 0},
		{"x$(", 9, api.ErrShort, 1}, {"x$(huh)", 9, api.ErrName, 1}, {"xy\xff", 9, api.ErrUTF, 2}, {strings.Repeat("a", 1025), 9, api.ErrLong, 1024}, {"$(a)$(huh)", 1, api.ErrName, 4}, {"$(none)$(huh)", 1, api.ErrName, 7},
		{"$(a)", 1, api.ErrMany, 0}, {"$(a)", 2, api.ErrMany, 0}, {"x$(a)$(a)", 8, api.ErrMany, 0}, {"$(lang)$(a)", 2, api.ErrMany, 0}, {"$(many)", 255, api.ErrMany, 0},
		{strings.Repeat("$(many)", 7), 1<<56 - 1, api.ErrMany, 0}, {strings.Repeat("$(many)", 8), 1<<63 - 1, api.ErrMany, 0}, {strings.Repeat("$(many)", 100), 1<<63 - 1, api.ErrMany, 0}, {strings.Repeat("$(a)", 256), 1 << 30, api.ErrMany, 0},
	} {
		got, err := subst.Expand(c.pattern, vars, c.most)
		wrong(t, "Expand of "+c.pattern+", at most "+strconv.Itoa(c.most), err, c.kind, c.at)
		texts(t, "beside the error of "+c.pattern, got, nil)
	}
	for pattern, count := range map[string]int{"a": 1, "$(a)": 3, "$(a)$(a)": 9, "$(a)$(a)$(a)$(a)": 81, "$(many)": 256, "$(many)$(a)": 768, strings.Repeat("$(many)", 100) + "$(none)": 0} {
		got, err := subst.Expand(pattern, vars, max(count, 1))
		same(t, "the error of Expand of "+pattern, err, nil)
		same(t, "how many forms "+pattern+" has", len(got), count)
	}
}

// P19.4: a text is in the pattern's language just if it is in that of a form.
func TestExpandOfAll(t *testing.T) {
	vars := []api.Var{of("v", "", "a", "aé*", "?B"), of("w", "*a", "Bé"), of("none")}
	ss := words([]string{"a", "B", "é"}, 4)
	for _, pattern := range words([]string{"a", "*", "$(v)", "$(w)", "$(none)", "$(upper)"}, 3) {
		forms, err := subst.Expand(pattern, vars, 64)
		same(t, "the error of Expand of "+pattern, err, nil)
		for _, s := range ss {
			for _, folds := range []bool{false, true} {
				one := slices.ContainsFunc(forms, func(form string) bool { return subst.Match(form, nil, s, folds) })
				if got := subst.Match(pattern, vars, s, folds); got != one {
					t.Fatalf("Match of %q and %q, fold %v: %v, of its forms %v", pattern, s, folds, got, one)
				}
			}
		}
	}
}

// share tells whether two texts lie in one memory.
func share(a, b string) bool {
	from := func(s string) uintptr { return uintptr(unsafe.Pointer(unsafe.StringData(s))) }
	return a != "" && b != "" && from(a) < from(b)+uintptr(len(b)) && from(b) < from(a)+uintptr(len(a))
}

// P19.5: what is handed in stays, its spare room, too.
func TestArgumentsStay(t *testing.T) {
	values := append(make([]string, 0, 8), "pizza", "taco*", "(spare)")[:2]
	vars := append(make([]api.Var, 0, 8), api.Var{Name: "food", Values: values}, of("b", "x"), of("spare"))[:2]
	for range 2 {
		subst.Check("$(food)$(b)$(huh)", vars)
		subst.Match("*$(food)$(b)*", vars, "PIZZAX", true)
		subst.CheckVar(vars[0])
		forms, _ := subst.Expand("$(food)", vars, 9)
		forms[0] = "written over"
		_ = append(forms, "written over")
	}
	same(t, "the values", values[:3], []string{"pizza", "taco*", "(spare)"})
	same(t, "the variables", vars[:3], []api.Var{{Name: "food", Values: values}, of("b", "x"), of("spare")})
}

// P19.5
func TestAnswersAreNew(t *testing.T) {
	vars := []api.Var{of("food", "pizza", "taco")}
	pattern := "abc$(food)def"
	names := subst.Names(pattern)
	same(t, "whether a name lies in the pattern", share(names[0], pattern), false)
	for _, p := range []string{pattern, "$(food)", "abcdef"} {
		forms, _ := subst.Expand(p, vars, 9)
		same(t, "whether a form lies in the pattern", share(forms[0], p), false)
		same(t, "whether a form lies in a value", share(forms[0], vars[0].Values[0]), false)
	}
	one, _ := subst.Expand("$(food)", vars, 9)
	two, _ := subst.Expand("$(food)", vars, 9)
	one[0], names[0] = "x", "x"
	texts(t, "the other answer", two, []string{"pizza", "taco"})
	texts(t, "the other names", subst.Names(pattern), []string{"food"})
	errA, errB := subst.Check("ab$(", nil), subst.Check("ab$(", nil)
	errA.(*api.Fault).At = 9
	wrong(t, "Check", errB, api.ErrShort, 2)
}

// P19.5: nothing is kept: variables may be written over behind a call.
func TestNothingIsKept(t *testing.T) {
	vars := []api.Var{of("a", "x")}
	match(t, "$(a)", vars, "x", false, true)
	vars[0].Values[0] = "y"
	match(t, "$(a)", vars, "x", false, false)
	match(t, "$(a)", vars, "y", false, true)
	vars[0].Name = "b"
	match(t, "$(a)", vars, "y", false, false)
}

// P1 and P2: all calls end, none panics, and a second run answers what the first one did.
func TestAnyArguments(t *testing.T) {
	patterns := append(words([]string{"$", "(", ")", "a", "\xc3"}, 4), strings.Repeat("$(", 512), strings.Repeat("$(a)", 256), strings.Repeat("$(a)", 257), strings.Repeat("\xff", 9999), "$(a)$(alpha)$(lang)*")
	lists := [][]api.Var{nil, {{}}, {of("a")}, {of("a", "", "a", "\xff", strings.Repeat("*", 1025)), of("a", "x")}, {of("$(", "$("), of("\xc3", "a")}}
	run := func() []any {
		var all []any
		keep := func(answers ...any) { all = append(all, answers...) }
		for _, p := range patterns {
			keep(subst.Names(p), subst.Own(p), subst.CheckVar(of(p, p)))
			for _, vars := range lists {
				keep(subst.Check(p, vars))
				for _, most := range []int{-1 << 63, 0, 1, 5} {
					forms, err := subst.Expand(p, vars, most)
					keep(forms, err)
				}
				for _, s := range []string{"", "a", "aab", "\xff", p} {
					keep(subst.Match(p, vars, s, false), subst.Match(p, vars, s, true))
				}
			}
		}
		return all
	}
	same(t, "the second run", run(), run())
}
