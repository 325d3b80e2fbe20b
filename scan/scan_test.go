package scan_test

import (
	"encoding/json"
	"errors"
	"math"
	"reflect"
	"regexp"
	"slices"
	"strconv"
	"strings"
	"testing"
	"unicode/utf8"

	"waybill/api"
	"waybill/scan"
)

// everyByte has each byte once, in order.
var everyByte = func() string {
	b := make([]byte, 256)
	for i := range b {
		b[i] = byte(i)
	}
	return string(b)
}()

func same(t *testing.T, what string, got, want any) {
	t.Helper()
	if !reflect.DeepEqual(got, want) {
		t.Errorf("%q: got %#v, want %#v", what, got, want)
	}
}

// wrong asks for the error itself, and for what errors.Is and errors.As tell of it.
func wrong(t *testing.T, what string, err error, kind api.Errno, at int) {
	t.Helper()
	var f *api.Fault
	if !errors.As(err, &f) {
		t.Errorf("%q: got %v, want errno %d at %d", what, err, kind, at)
		return
	}
	if f.Kind != kind || f.At != at || !errors.Is(err, kind) || f.Inner != nil {
		t.Errorf("%q: got errno %d at %d, want %d at %d", what, f.Kind, f.At, kind, at)
	}
}

// outcome is what stands at the beginning of a text: a token up to a place, or what is wrong with it (of fault 0 nothing), and where.
type outcome struct {
	kind, to int
	fault    api.Errno
	at       int
}

func token(kind, to int) outcome { return outcome{kind: kind, to: to} }
func short(at int) outcome       { return outcome{fault: api.ErrShort, at: at} }
func form(at int) outcome        { return outcome{fault: api.ErrForm, at: at} }
func noChar(at int) outcome      { return outcome{fault: api.ErrUTF, at: at} }
func (o outcome) token(from int) api.Token {
	return api.Token{Kind: o.kind, From: from, To: from + o.to}
}

// check asks for a text's first token, too behind blanks and other bytes, which move its place alone.
func check(t *testing.T, s string, want outcome) {
	t.Helper()
	for _, c := range []struct {
		ahead string
		at    int
	}{{"", 0}, {" \n", 0}, {"\"\t\r", 1}, {"x", 1}} {
		whole := c.ahead + s
		got, err := scan.Next([]byte(whole), c.at)
		if want.fault == 0 {
			same(t, whole, got, want.token(len(c.ahead)))
			same(t, whole, err, error(nil))
		} else {
			same(t, whole, got, api.Token{})
			wrong(t, whole, err, want.fault, len(c.ahead)+want.at)
		}
	}
}

// P6.1
func TestNextPlace(t *testing.T) {
	for _, s := range []string{"", "a", " ", "true", "\""} {
		for _, at := range []int{math.MinInt, -1 << 32, -1, len(s) + 1, len(s) + 2, 1 << 32, math.MaxInt} {
			got, err := scan.Next([]byte(s), at)
			wrong(t, s, err, api.ErrArg, at)
			same(t, s, got, api.Token{})
		}
		got, err := scan.Next([]byte(s), len(s))
		same(t, s, got, api.Token{Kind: api.TokEnd, From: len(s), To: len(s)})
		same(t, s, err, error(nil))
	}
	got, err := scan.Next(nil, 0)
	same(t, "nil", got, api.Token{Kind: api.TokEnd})
	same(t, "nil", err, error(nil))
}

// P6.1: reading may begin within what would be a token, read from elsewhere.
func TestNextWithin(t *testing.T) {
	b := []byte(`"a 12","`)
	for at, want := range map[int]api.Token{
		0: {Kind: api.TokText, From: 0, To: 6}, 2: {Kind: api.TokNumber, From: 3, To: 5}, 3: {Kind: api.TokNumber, From: 3, To: 5},
		4: {Kind: api.TokNumber, From: 4, To: 5}, 5: {Kind: api.TokText, From: 5, To: 8}, 6: {Kind: api.TokComma, From: 6, To: 7},
	} {
		got, err := scan.Next(b, at)
		same(t, "Next at "+strconv.Itoa(at), got, want)
		same(t, "its error", err, error(nil))
	}
	_, err := scan.Next(b, 1)
	wrong(t, "Next at 1", err, api.ErrForm, 1)
	_, err = scan.Next(b, 7)
	wrong(t, "Next at 7", err, api.ErrShort, 8)
}

// P6.1: of every byte it is known what it is alone, and whether it is a blank.
func TestEveryFirstByte(t *testing.T) {
	marks := map[byte]int{'{': api.TokObject, '}': api.TokEndObject, '[': api.TokList, ']': api.TokEndList, ':': api.TokColon, ',': api.TokComma}
	for i := range 256 {
		c, s := byte(i), everyByte[i:i+1]
		switch {
		case marks[c] != 0:
			check(t, s, token(marks[c], 1))
			check(t, s+"\xff", token(marks[c], 1))
		case strings.Contains(" \t\n\r", s):
			got, err := scan.Next([]byte(s+s), 0)
			same(t, s+s, got, api.Token{Kind: api.TokEnd, From: 2, To: 2})
			same(t, s+s, err, error(nil))
			got, _ = scan.Next([]byte(s+"1"+s), 0)
			same(t, s+"1"+s, got, api.Token{Kind: api.TokNumber, From: 1, To: 2})
		case c >= '0' && c <= '9':
			check(t, s, token(api.TokNumber, 1))
		case strings.Contains(`"-tfn`, s):
			check(t, s, short(1))
		default:
			check(t, s, form(0))
			check(t, s+"1", form(0))
		}
	}
}

// P6.1: what is behind a word is no part of it.
func TestWords(t *testing.T) {
	for word, kind := range map[string]int{"true": api.TokTrue, "false": api.TokFalse, "null": api.TokNull} {
		for _, behind := range []string{"", " ", "e", "1", ",", "\xff", word} {
			check(t, word+behind, token(kind, len(word)))
		}
		for n := 1; n < len(word); n++ {
			check(t, word[:n], short(n))
			for i := range 256 {
				if everyByte[i] != word[n] {
					check(t, word[:n]+everyByte[i:i+1], form(n))
					check(t, word[:n]+everyByte[i:i+1]+word[n+1:], form(n))
				}
			}
		}
	}
	check(t, "True", form(0))
	check(t, "NULL", form(0))
}

// P6.1
func TestNumbers(t *testing.T) {
	for s, want := range map[string]outcome{
		"0": token(api.TokNumber, 1), "-0": token(api.TokNumber, 2), "7": token(api.TokNumber, 1), "-10.250E+09": token(api.TokNumber, 11),
		"01": token(api.TokNumber, 1), "-00": token(api.TokNumber, 2), "0.0": token(api.TokNumber, 3), "0e0": token(api.TokNumber, 3), "1e-007": token(api.TokNumber, 6),
		"1.5.2": token(api.TokNumber, 3), "1e5e5": token(api.TokNumber, 3), "1e5.5": token(api.TokNumber, 3), "1-2": token(api.TokNumber, 1), "1+": token(api.TokNumber, 1), "12a": token(api.TokNumber, 2), "1,": token(api.TokNumber, 1),
		"-": short(1), "1.": short(2), "-0.": short(3), "1e": short(2), "1E-": short(3), "1.5e+": short(5),
		"--1": form(1), "-.5": form(1), "-x": form(1), "- 1": form(1), "1..5": form(2), "1.e5": form(2), "1. 5": form(2), "1ee": form(2), "1e+-1": form(3), "1e.5": form(2), "1e 5": form(2), "1.\xff": form(2), "-\xff": form(1),
		"+1": form(0), ".5": form(0), "e5": form(0), "-٣": form(1), "Infinity": form(0), "-Infinity": form(1), "0x1": token(api.TokNumber, 1),
	} {
		check(t, s, want)
	}
	digits := strings.Repeat("9", 9999)
	check(t, "-"+digits+"."+digits+"e-"+digits, token(api.TokNumber, 1+9999+1+9999+2+9999))
}

var (
	wholeNumber = regexp.MustCompile(`^-?(0|[1-9][0-9]*)(\.[0-9]+)?([eE][+-]?[0-9]+)?$`)
	partNumber  = regexp.MustCompile(`^-?((0|[1-9][0-9]*)(\.[0-9]*|(\.[0-9]+)?[eE][+-]?[0-9]*)?)?$`)
)

// numberAsRule goes as far as what stands there is a number's beginning.
func numberAsRule(s string) outcome {
	n := 0
	for n < len(s) && partNumber.MatchString(s[:n+1]) {
		n++
	}
	switch {
	case wholeNumber.MatchString(s[:n]):
		return token(api.TokNumber, n)
	case n == len(s):
		return short(n)
	default:
		return form(n)
	}
}

// P6.1: every text of up to five bytes that a number may have in it, and one that it may not.
func TestEveryNumber(t *testing.T) {
	for _, s := range words([]string{"-", "0", "1", ".", "e", "E", "+", "x"}, 5) {
		if s == "" || strings.HasPrefix(s, "+") {
			continue
		}
		got, err := scan.Next([]byte(s), 0)
		checkAnswer(t, s, got, err, numberAsRule(s))
	}
}

// checkAnswer is check's quick sister, for the many.
func checkAnswer(t *testing.T, s string, got api.Token, err error, want outcome) {
	t.Helper()
	if want.fault != 0 {
		wrong(t, s, err, want.fault, want.at)
	}
	if want.fault == 0 && err != nil || got != want.token(0) {
		t.Errorf("%q: got %v, %v, want %v", s, got, err, want)
	}
}

// words are all rows of up to so many pieces.
func words(pieces []string, most int) []string {
	all, last := []string{""}, []string{""}
	for range most {
		var next []string
		for _, s := range last {
			for _, p := range pieces {
				next = append(next, s+p)
			}
		}
		all, last = append(all, next...), next
	}
	return all
}

// P6.1: of every byte it is known whether it may stand in a text by itself, and behind a \.
func TestEveryByteInAText(t *testing.T) {
	for i := range 256 {
		c := everyByte[i : i+1]
		alone, escaped := token(api.TokText, 4), form(3)
		switch {
		case c == `"`:
			alone, escaped = token(api.TokText, 3), token(api.TokText, 5)
		case c == `\`:
			alone, escaped = token(api.TokText, 5), token(api.TokText, 5)
		case i < 32:
			alone = form(2)
		case i > 127:
			alone = noChar(2)
		case strings.Contains("/bfnrt", c):
			escaped = token(api.TokText, 5)
		}
		if c == `\` {
			check(t, `"a`+c+`""`, alone)
		} else {
			check(t, `"a`+c+`"`, alone)
		}
		if c != "u" {
			check(t, `"a\`+c+`"`, escaped)
		}
	}
}

// P6.1: the end of the bytes is told where it is, and bytes that are no character at their first one.
func TestTextsThatEnd(t *testing.T) {
	whole := `"aé€😀\n\u00e9\ud83d\ude00"`
	places := map[int]bool{} // within characters of several bytes
	for i := range whole {
		for n := 1; n < utf8.RuneLen([]rune(whole[i:])[0]); n++ {
			places[i+n] = true
		}
	}
	for n := 1; n < len(whole); n++ {
		if !places[n] {
			check(t, whole[:n], short(n))
			continue
		}
		first := n
		for places[first] {
			first--
		}
		check(t, whole[:n], noChar(first))
		check(t, whole[:n]+`"`, noChar(first))
	}
	check(t, whole, token(api.TokText, len(whole)))
	for _, bad := range []string{"\x80", "\xff", "\xc0\x80", "\xc3(", "\xe0\x80\x80", "\xed\xa0\x80", "\xed\xb0\x80", "\xf4\x90\x80\x80", "\xf0\x9f\x98"} {
		check(t, `"a`+bad+`"`, noChar(2))
		check(t, `"€`+bad+`\x`, noChar(4))
		check(t, `"\n`+bad+"\n", noChar(3))
	}
	check(t, "\"a\n\xff\"", form(2))
	check(t, "\"\\q\xff\"", form(2))
}

// P6.1: escapes by numbers.
func TestCodes(t *testing.T) {
	for s, want := range map[string]outcome{
		`"\u`: short(3), `"\u1`: short(4), `"\u123`: short(6), `"\u1234`: short(7), `"\u1234"`: token(api.TokText, 8), `"\u12345"`: token(api.TokText, 9),
		`"\u"`: form(3), `"\u1"`: form(4), `"\u12 4"`: form(5), `"\u123g"`: form(6), `"\u123\`: form(6), "\"\\u123\xff": form(6), `"\U1234"`: form(2), `"\u+123"`: form(3), `"\ux123"`: form(3),
		`"\u0000"`: token(api.TokText, 8), `"\uD7ff"`: token(api.TokText, 8), `"\uE000"`: token(api.TokText, 8), `"\uFfFf"`: token(api.TokText, 8),
	} {
		check(t, s, want)
	}
	for i := range 256 {
		c := everyByte[i : i+1]
		for n := range 4 {
			s := `"\u` + "0000"[:n] + c + "0000"[n+1:] + `"`
			if strings.Contains("0123456789abcdefABCDEF", c) {
				check(t, s, token(api.TokText, 8))
			} else {
				check(t, s, form(3+n))
			}
		}
	}
}

// P6.1: halves.
func TestHalves(t *testing.T) {
	for s, want := range map[string]outcome{
		`"\ud83d\ude00"`: token(api.TokText, 14), `"\uD800\uDC00"`: token(api.TokText, 14), `"\uDBFF\uDFFF"`: token(api.TokText, 14),
		// a high one that no low one follows
		`"a\ud83d"`: form(2), `"a\ud83dx`: form(2), `"a\ud83d` + "\n": form(2), "\"a\\ud83d\xff": form(2), `"a\ud83d\n`: form(2), `"a\ud83d\\`: form(2), `"a\ud83d\U`: form(2),
		`"a\ud83d\ug`: form(2), `"a\ud83d\ude0g`: form(2), `"a\ud83d\ude0"`: form(2), `"a\ud83d\ud83d\ude00"`: form(2), `"a\ud83d\u0041"`: form(2), `"a\ud83d\udbff"`: form(2), `"a\ud83d\ue000"`: form(2), `"a\ud83d\u0041`: form(2), `"a\ud83dde00"`: form(2), `"a\ud83d \ude00"`: form(2),
		// the end, while all that is there fits, be it a low one's digits or not
		`"a\ud83d`: short(8), `"a\ud83d\`: short(9), `"a\ud83d\u`: short(10), `"a\ud83d\ud`: short(11), `"a\ud83d\ude0`: short(13), `"a\ud83d\u0`: short(11), `"a\ud83d\u004`: short(13), `"a\ud83d\ude00`: short(14),
		// a low one, whatever is behind it
		`"a\ude00"`: form(2), `"a\ude00`: form(2), `"a\ude00\ud83d"`: form(2), `"a\udc00\`: form(2), `"a\udfff\udc00"`: form(2), `"a\ude0`: short(7), `"a\ude0x`: form(7),
		`"\ud83d\ude00\ude00"`: form(13), `"\ud83d\ude00\ud83d"`: form(13), `"\ud83d\ude00\ud83d`: short(19),
	} {
		check(t, s, want)
	}
	for n := 0xd700; n < 0xe100; n++ {
		code := `\u` + strconv.FormatInt(int64(n), 16)
		alone, behind := token(api.TokText, 8), form(1)
		if n >= 0xd800 && n < 0xe000 {
			alone = form(1)
		}
		if n >= 0xdc00 && n < 0xe000 {
			behind = token(api.TokText, 14)
		}
		checkOne(t, `"`+code+`"`, alone)
		checkOne(t, `"\udabc`+code+`"`, behind)
	}
}

func checkOne(t *testing.T, s string, want outcome) {
	t.Helper()
	got, err := scan.Next([]byte(s), 0)
	checkAnswer(t, s, got, err, want)
}

// The rules of a text's pieces, of bytes that are told as the characters of the same numbers.
var (
	piece = regexp.MustCompile(`^(` + strings.Join([]string{
		`[\x{20}-\x{21}\x{23}-\x{5b}\x{5d}-\x{7f}]`,
		`[\x{c2}-\x{df}][\x{80}-\x{bf}]`,
		`\x{e0}[\x{a0}-\x{bf}][\x{80}-\x{bf}]`,
		`[\x{e1}-\x{ec}\x{ee}\x{ef}][\x{80}-\x{bf}]{2}`,
		`\x{ed}[\x{80}-\x{9f}][\x{80}-\x{bf}]`,
		`\x{f0}[\x{90}-\x{bf}][\x{80}-\x{bf}]{2}`,
		`[\x{f1}-\x{f3}][\x{80}-\x{bf}]{3}`,
		`\x{f4}[\x{80}-\x{8f}][\x{80}-\x{bf}]{2}`,
		`\\["\\/bfnrt]`,
		`\\u([0-9abcefABCEF][0-9a-fA-F]{3}|[dD][0-7][0-9a-fA-F]{2})`,
		`\\u[dD][89abAB][0-9a-fA-F]{2}\\u[dD][c-fC-F][0-9a-fA-F]{2}`,
	}, "|") + `)`)
	highCode = regexp.MustCompile(`^\\u[dD][89abAB][0-9a-fA-F]{2}`)
	lowCode  = regexp.MustCompile(`^\\u[dD][c-fC-F][0-9a-fA-F]{2}`)
	fits     = regexp.MustCompile(`^(\\(u[0-9a-fA-F]{0,3})?)?$`)
)

// textAsRule tells of a text, from its first " on, what the chapter's rules say.
func textAsRule(s string) outcome {
	var wide strings.Builder
	for i := range len(s) {
		wide.WriteRune(rune(s[i]))
	}
	r, at := []rune(wide.String()), 1
	for at < len(r) && r[at] != '"' {
		rest := string(r[at:])
		size := len([]rune(piece.FindString(rest)))
		switch {
		case size > 0:
			at += size
		case highCode.MatchString(rest) && fits.MatchString(rest[6:]):
			return short(len(r))
		case highCode.MatchString(rest), lowCode.MatchString(rest), r[at] < 32:
			return form(at)
		case r[at] == '\\':
			return escapeAsRule(r, at)
		default:
			return noChar(at)
		}
	}
	if at == len(r) {
		return short(at)
	}
	return token(api.TokText, at+1)
}

// escapeAsRule is asked of an escape that isn't right: it is as long as it fits.
func escapeAsRule(r []rune, at int) outcome {
	n := at
	for n < len(r) && fits.MatchString(string(r[at:n+1])) {
		n++
	}
	if n == len(r) {
		return short(n)
	}
	return form(n)
}

// P6.1: every row of up to three of these pieces, ended by a quote or cut off anywhere.
func TestEveryText(t *testing.T) {
	pieces := []string{
		"a", "/", "\x1f", " ", "\x7f", "é", "€", "😀", "\xff", "\xed\xa0\x80", `\`, `\n`, `\"`, `\\`, `\x`, `\/`,
		`\u0041`, `\u00G`, `\ud83d`, `\uDE00`, `\udbff\udfff`, `\ud83d\u00`, `u00`, `"`, "\n",
	}
	for _, s := range words(pieces, 3) {
		checkOne(t, `"`+s+`"`, textAsRule(`"`+s+`"`))
		// What is cut off further ahead is a shorter row's.
		for n := max(0, len(s)-12); n <= len(s); n++ {
			checkOne(t, `"`+s[:n], textAsRule(`"`+s[:n]))
		}
	}
}

// P6.2, and the chapter's example.
func TestAll(t *testing.T) {
	for s, want := range map[string][]api.Token{
		`{"a":1}`: {{Kind: api.TokObject, From: 0, To: 1}, {Kind: api.TokText, From: 1, To: 4}, {Kind: api.TokColon, From: 4, To: 5}, {Kind: api.TokNumber, From: 5, To: 6}, {Kind: api.TokEndObject, From: 6, To: 7}, {Kind: api.TokEnd, From: 7, To: 7}},
		"":        {{Kind: api.TokEnd}}, " \t\n\r": {{Kind: api.TokEnd, From: 4, To: 4}},
		" 1 ":             {{Kind: api.TokNumber, From: 1, To: 2}, {Kind: api.TokEnd, From: 3, To: 3}},
		"01-1":            {{Kind: api.TokNumber, From: 0, To: 1}, {Kind: api.TokNumber, From: 1, To: 2}, {Kind: api.TokNumber, From: 2, To: 4}, {Kind: api.TokEnd, From: 4, To: 4}},
		`"a"""}]`:         {{Kind: api.TokText, From: 0, To: 3}, {Kind: api.TokText, From: 3, To: 5}, {Kind: api.TokEndObject, From: 5, To: 6}, {Kind: api.TokEndList, From: 6, To: 7}, {Kind: api.TokEnd, From: 7, To: 7}},
		"truefalse[null,": {{Kind: api.TokTrue, From: 0, To: 4}, {Kind: api.TokFalse, From: 4, To: 9}, {Kind: api.TokList, From: 9, To: 10}, {Kind: api.TokNull, From: 10, To: 14}, {Kind: api.TokComma, From: 14, To: 15}, {Kind: api.TokEnd, From: 15, To: 15}},
	} {
		list, err := scan.All([]byte(s))
		same(t, s, list, want)
		same(t, s, err, error(nil))
	}
	list, err := scan.All(nil)
	same(t, "nil", list, []api.Token{{Kind: api.TokEnd}})
	same(t, "nil", err, error(nil))
}

// P6.2: the first error is the answer, and no tokens beside it.
func TestAllErrors(t *testing.T) {
	for s, want := range map[string]outcome{
		"x": form(0), " [1,+2,tru": form(4), `{"a":"`: short(6), "[1.": short(3), "[\"a\xff\",x": noChar(3), `["\ud800"`: form(2), "[nul]": form(4), "\ufeff1": form(0), "1 \v": form(2), "//": form(0),
	} {
		list, err := scan.All([]byte(s))
		wrong(t, s, err, want.fault, want.at)
		same(t, s, len(list), 0)
	}
}

// P6.2: All is Next, each time from where the last token ended.
func TestAllIsNext(t *testing.T) {
	for _, s := range words([]string{" ", "{", "]", ":", ",", "tru", "e", "0", "-", ".5", `"`, `\`, "\xff"}, 4) {
		list, err := scan.All([]byte(s))
		at := 0
		for _, tok := range list {
			got, _ := scan.Next([]byte(s), at)
			if got != tok {
				t.Fatalf("%q: %v of All, %v of Next", s, tok, got)
			}
			at = tok.To
		}
		if err == nil && (len(list) == 0 || list[len(list)-1] != api.Token{Kind: api.TokEnd, From: len(s), To: len(s)}) {
			t.Fatalf("%q: %v", s, list)
		}
		if err != nil && len(list) > 0 {
			t.Fatalf("%q: %v beside %v", s, list, err)
		}
	}
}

// text gives what a text's token stands for, when it is read alone and within others.
func text(t *testing.T, s string) string {
	t.Helper()
	got, err := scan.Text([]byte(s), api.Token{Kind: api.TokText, From: 0, To: len(s)})
	within, errW := scan.Text([]byte("[ "+s+`,"`), api.Token{Kind: api.TokText, From: 2, To: 2 + len(s)})
	same(t, s, []any{err, errW}, []any{nil, nil})
	same(t, s, within, got)
	return got
}

// P6.3
func TestText(t *testing.T) {
	for s, want := range map[string]string{
		`""`: "", `"a"`: "a", `"\"\\\/\b\f\n\r\t"`: "\"\\/\b\f\n\r\t", `"/ \u002F"`: "/ /", `"\u0000\u001f"`: "\x00\x1f",
		`"é€😀"`: "é€😀", `"\u00e9\u20AC\uD83d\uDe00"`: "é€😀", `"\ud800\udc00\uDBFF\uDFFF"`: "\U00010000\U0010ffff", `"\ud7ff\ue000\ufffd\uffff"`: "\ud7ff\ue000\ufffd\uffff", "\"\ufffd\x7f\"": "\ufffd\x7f",
		`"\\u0041\\n"`: `\u0041\n`, `"\u005cn\u0022"`: `\n"`, `"\u00412"`: "A2", `"a,b]}"`: "a,b]}",
	} {
		same(t, s, text(t, s), want)
	}
}

// P6.3: every character as an escape, or two.
func TestTextOfEveryCode(t *testing.T) {
	code := func(n int) string { return `\u` + strconv.FormatInt(int64(n)+0x10000, 16)[1:] }
	for n := range 0x110000 {
		if n >= 0xd800 && n < 0xe000 {
			continue
		}
		s := code(n & 0xffff)
		if n > 0xffff {
			s = code(0xd800+(n-0x10000)>>10) + code(0xdc00+(n-0x10000)&0x3ff)
		}
		s = `"` + s + `"`
		got, err := scan.Text([]byte(s), api.Token{Kind: api.TokText, From: 0, To: len(s)})
		if got != string(rune(n)) || err != nil {
			t.Fatalf("%s: got %q, %v", s, got, err)
		}
	}
}

// P6.3: of a text with several tokens, each token but the texts', and each that differs from one of them in one number, is refused.
func TestTextOfOtherTokens(t *testing.T) {
	b := []byte(` {"k":[1,true,false,null,"a\n"]} `)
	list, err := scan.All(b)
	same(t, "All's error", err, error(nil))
	for _, tok := range list {
		s, err := scan.Text(b, tok)
		if tok.Kind == api.TokText {
			same(t, "Text's error", err, error(nil))
			continue
		}
		wrong(t, "another token", err, api.ErrKind, tok.From)
		same(t, "the text beside an error", s, "")
	}
	for kind := -1; kind <= api.TokNull+1; kind++ {
		for from := -2; from < len(b)+2; from++ {
			for to := -2; to < len(b)+2; to++ {
				textOrWrong(t, b, api.Token{Kind: kind, From: from, To: to})
			}
		}
	}
}

// textOrWrong asks Next whether the token is there: it may be within what All gives.
func textOrWrong(t *testing.T, b []byte, tok api.Token) {
	t.Helper()
	got, _ := scan.Next(b, tok.From)
	s, err := scan.Text(b, tok)
	if got == tok && tok.Kind == api.TokText {
		same(t, "Text's error", err, error(nil))
		return
	}
	wrong(t, "no token", err, api.ErrKind, tok.From)
	same(t, "the text beside an error", s, "")
}

// P6.3: errors of Next aren't told.
func TestTextOfWrongBytes(t *testing.T) {
	for _, s := range []string{"", "x", `"`, `"a`, "\"\xff\"", `"\ud800"`, `"\x"`, "\"\n\"", " \"\""} {
		for _, from := range []int{math.MinInt, -1, 0, len(s), len(s) + 1, math.MaxInt} {
			for _, to := range []int{math.MinInt, 0, 1, 2, len(s), math.MaxInt} {
				got, err := scan.Text([]byte(s), api.Token{Kind: api.TokText, From: from, To: to})
				var f *api.Fault
				if got != "" || !errors.As(err, &f) || f.Kind != api.ErrKind || f.At != from || errors.Is(err, api.ErrArg) {
					t.Errorf("%q from %d to %d: %q, %v", s, from, to, got, err)
				}
			}
		}
	}
	_, err := scan.Text(nil, api.Token{})
	wrong(t, "nothing", err, api.ErrKind, 0)
}

// P6.4: of every byte below 128 its form is known.
func TestQuoteOfEveryByte(t *testing.T) {
	forms := map[byte]string{'"': `\"`, '\\': `\\`, '\b': `\b`, '\f': `\f`, '\n': `\n`, '\r': `\r`, '\t': `\t`}
	for i := range 128 {
		c := byte(i)
		want := forms[c]
		if want == "" && i < 32 {
			want = `\u00` + strings.ToUpper(strconv.FormatInt(int64(i)+0x100, 16)[1:])
		} else if want == "" {
			want = string(rune(c))
		}
		got, err := scan.Quote("a" + string(rune(c)) + "b")
		same(t, want, got, `"a`+want+`b"`)
		same(t, want, err, error(nil))
	}
	for s, want := range map[string]string{"": `""`, "\x1f\x0b\x0e": `"\u001F\u000B\u000E"`, "/é€😀\u2028\u2029\ufeff\ufffd<>&\x7f": "\"/é€😀\u2028\u2029\ufeff\ufffd<>&\x7f\"", `\u0041`: `"\\u0041"`, `\\""`: `"\\\\\"\""`} {
		got, err := scan.Quote(s)
		same(t, s, got, want)
		same(t, s, err, error(nil))
	}
}

// P6.4: Text of Quote is the text, and Quote gives a token and nothing else.
func TestTextOfQuote(t *testing.T) {
	back := func(s string) {
		t.Helper()
		q, err := scan.Quote(s)
		same(t, s, err, error(nil))
		list, err := scan.All([]byte(q))
		same(t, s, list, []api.Token{{Kind: api.TokText, From: 0, To: len(q)}, {Kind: api.TokEnd, From: len(q), To: len(q)}})
		same(t, s, err, error(nil))
		same(t, q, text(t, q), s)
		var other string
		same(t, q, json.Unmarshal([]byte(q), &other), error(nil))
		same(t, q, other, s)
	}
	for _, s := range words([]string{"a", `"`, `\`, "u", "/", "\n", "\x00", "\x1f", "é", "😀", "0041"}, 3) {
		back(s)
	}
	var all strings.Builder
	for n := range 0x110000 {
		if n < 0xd800 || n > 0xdfff {
			all.WriteRune(rune(n))
		}
	}
	back(all.String())
}

// P6.4
func TestQuoteErrors(t *testing.T) {
	for _, ahead := range []string{"", "a", "\n", "\"\\", "é", "a😀"} {
		for _, bad := range []string{"\x80", "\xff", "\xc3", "\xc0\x80", "\xe2\x82", "\xed\xa0\x80", "\xed\xbf\xbf", "\xf4\x90\x80\x80", "\xf0\x9f\x98"} {
			for _, behind := range []string{"", "a", "\"", "\n", "\xff", "é"} {
				q, err := scan.Quote(ahead + bad + behind)
				wrong(t, ahead+bad+behind, err, api.ErrUTF, len(ahead))
				same(t, ahead+bad+behind, q, "")
			}
		}
	}
}

// P6.5: the room of a slice is none of its bytes, and isn't written to.
func TestHandedInStays(t *testing.T) {
	room := []byte(`["a\né",true]   `)
	before := string(room)
	for n := range room {
		b := room[:n]
		got, err := scan.All(b)
		want, errW := scan.All([]byte(before[:n]))
		same(t, before[:n], got, want)
		same(t, before[:n], err, errW)
	}
	list, err := scan.All(room)
	same(t, "All's error", err, error(nil))
	want := slices.Clone(list)
	s, err := scan.Text(room[:8], list[1])
	same(t, "Text's error", err, error(nil))
	same(t, "the bytes", string(room), before)
	clear(room)
	same(t, "the tokens, when the bytes are written over", list, want)
	same(t, "the text, when the bytes are written over", s, "a\né")
}

// P6.5: answers are by themselves, their spare room too.
func TestAnswersAreNew(t *testing.T) {
	b := []byte("[1,2,3]")
	one, other := must(scan.All(b)), must(scan.All(b))
	want := slices.Clone(other)
	clear(one[:cap(one)])
	same(t, "the other list", other, want)

	_, errA := scan.Next(b, -1)
	_, errB := scan.Next(b, -1)
	errA.(*api.Fault).At = 9
	wrong(t, "Next", errB, api.ErrArg, -1)
}

func must[T any](v T, err error) T {
	if err != nil {
		panic(err)
	}
	return v
}

// P1: long texts and long rows of tokens are read to their end.
func TestLongTexts(t *testing.T) {
	const size = 1 << 20
	s := `"` + strings.Repeat(`a\u00e9`, size/8) + `"`
	same(t, "a long text", text(t, s) == strings.Repeat("aé", size/8), true)
	same(t, "brackets", len(must(scan.All([]byte(strings.Repeat("[", size))))), size+1)
	same(t, "blanks", len(must(scan.All([]byte(strings.Repeat(" ", size))))), 1)
	_, err := scan.Next([]byte(s[:len(s)-1]), 0)
	wrong(t, "a long text without an end", err, api.ErrShort, len(s)-1)
}

// P1 and P2: all calls end, none panics, and a second run answers what the first one did.
func TestAnyArguments(t *testing.T) {
	texts := append(words([]string{`"`, `\`, "u", "d800", "-", "1", ".", "t", "\xff", "\n", "{"}, 3), everyByte)
	places := []int{math.MinInt, -1, 0, 1, 2, 3, 256, 257, math.MaxInt}
	run := func() []any {
		var all []any
		for _, s := range texts {
			b := []byte(s)
			list, errA := scan.All(b)
			q, errQ := scan.Quote(s)
			all = append(all, list, errA, q, errQ)
			for _, at := range places {
				tok, errN := scan.Next(b, at)
				text, errT := scan.Text(b, api.Token{Kind: api.TokText, From: at, To: at + 2})
				all = append(all, tok, errN, text, errT)
			}
		}
		return all
	}
	same(t, "the second run", run(), run())
}
