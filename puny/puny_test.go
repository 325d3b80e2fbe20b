package puny_test

import (
	"errors"
	"math"
	"math/big"
	"math/rand"
	"reflect"
	"slices"
	"strings"
	"testing"
	"unsafe"

	"waybill/api"
	"waybill/puny"
)

const digits = "abcdefghijklmnopqrstuvwxyz0123456789"

// samples are texts and what Encode gives of them, most of them those of RFC 3492.
var samples = map[string]string{
	"": "", "a": "a-", "-": "--", "--": "---", "a-b": "a-b-", "aB9": "aB9-", "\x00\x7f": "\x00\x7f-", "-> $1.00 <-": "-> $1.00 <--",
	"ü": "tda", "\u0080": "a", "\u0080\u0080": "aa", "bücher": "bcher-kva", "BüCHER": "BCHER-kva", "a-ü": "a--yka", "-ü": "--eha", "ü-": "--dha",
	"ليهمابتكلموشعربي؟": "egbpdaj6bu4bxfgehfvwxn", "他们为什么不说中文": "ihqwcrb4cv8a8dqg056pqjye", "他們爲什麽不說中文": "ihqwctvzc91f659drss3x8bo0yb",
	"Pročprostěnemluvíčesky": "Proprostnemluvesky-uyb24dma41a", "למההםפשוטלאמדבריםעברית": "4dbcagdahymbxekheh6e0a7fei0b",
	"почемужеонинеговорятпорусски":             "b1abfaaepdrnnbgefbadotcwatmq2g4l",
	"PorquénopuedensimplementehablarenEspañol": "PorqunopuedensimplementehablarenEspaol-fmd56a", "TạisaohọkhôngthểchỉnóitiếngViệt": "TisaohkhngthchnitingVit-kjcr8268qyxafd2f1b9g",
	"3年B組金八先生": "3B-ww4c5e180e575a65lsy2b", "安室奈美恵-with-SUPER-MONKEYS": "-with-SUPER-MONKEYS-pc58ag80a8qai00g7n9n", "Hello-Another-Way-それぞれの場所": "Hello-Another-Way--fc4qua05auwb3674vfr0b",
	"ひとつ屋根の下2": "2-u9tlzr9756bt3uc0v", "MajiでKoiする5秒前": "MajiKoi5-783gue6qz075azm5e", "パフィーdeルンバ": "de-jg4avhby1noc0d", "そのスピードで": "d9juau41awczczp",
}

func same(t *testing.T, what string, got, want any) {
	t.Helper()
	if !reflect.DeepEqual(got, want) {
		t.Errorf("%q: got %#v, want %#v", what, got, want)
	}
}

// wrong asks for the error itself, and for what errors.Is and errors.As tell of it.
func wrong(t *testing.T, what string, err error, kind api.Errno, at int) {
	t.Helper()
	var f *api.Fault
	if !errors.As(err, &f) {
		t.Errorf("%q: got %v, want errno %d at %d", what, err, kind, at)
		return
	}
	if f.Kind != kind || f.At != at || !errors.Is(err, kind) || f.Inner != nil {
		t.Errorf("%q: got errno %d at %d, want %d at %d", what, f.Kind, f.At, kind, at)
	}
}

func charsOf(s string) (list []int) {
	for _, r := range s {
		list = append(list, int(r))
	}
	return list
}

// encoded asks for an encoding, and for the way back.
func encoded(t *testing.T, list []int, want string) {
	t.Helper()
	got, err := puny.Encode(list)
	if got != want || err != nil {
		t.Errorf("Encode of %x: got %q, %v, want %q", list, got, err, want)
	}
	if len(want) <= 1024 {
		decoded(t, want, list)
	}
}

func decoded(t *testing.T, s string, want []int) {
	t.Helper()
	got, err := puny.Decode(s)
	if !slices.Equal(got, want) || err != nil {
		t.Errorf("Decode of %q: got %x, %v, want %x", s, got, err, want)
	}
}

func undecoded(t *testing.T, s string, kind api.Errno, at int) {
	t.Helper()
	got, err := puny.Decode(s)
	wrong(t, "Decode of "+s, err, kind, at)
	if got != nil {
		t.Errorf("Decode of %q: %x beside an error", s, got)
	}
}

// adapted is the chapter's rule for the bias, worked out with the number taken down step by step.
func adapted(delta, count int, first bool) int {
	rest := delta / 2
	if first {
		rest = delta / 700
	}
	rest += rest / count
	k := 0
	for ; rest > 455; rest /= 35 {
		k += 36
	}
	return k + (36*rest)/(rest+38)
}

func bound(k, bias int) int {
	switch {
	case k-bias < 1:
		return 1
	case k-bias > 26:
		return 26
	default:
		return k - bias
	}
}

func numberDigits(number, bias int) string {
	s := ""
	k := 36
	for ; number >= bound(k, bias); k += 36 {
		t := bound(k, bias)
		s += string(digits[t+(number-t)%(36-t)])
		number = (number - t) / (36 - t)
	}
	return s + string(digits[number])
}

// encodingByPlaces works an encoding out by going past the places one by one, so only of small characters.
func encodingByPlaces(list []int) string {
	type handled struct{ char, at int }
	var there []handled
	plain := ""
	var coded []handled
	for at, c := range list {
		if c < 128 {
			plain += string(rune(c))
			there = append(there, handled{c, at})
		} else {
			coded = append(coded, handled{c, at})
		}
	}
	s := plain
	if plain != "" {
		s += "-"
	}
	slices.SortStableFunc(coded, func(a, b handled) int { return a.char - b.char })
	n, place, bias := 128, 0, 72
	for i, next := range coded {
		to := 0
		for to < len(there) && there[to].at < next.at {
			to++
		}
		number := 0
		for n != next.char || place != to {
			number++
			if place++; place > len(there) {
				n, place = n+1, 0
			}
		}
		s += numberDigits(number, bias)
		there = slices.Insert(there, to, next)
		bias = adapted(number, len(there), i == 0)
		place++
	}
	return s
}

// decodingByBig is P9.2 with numbers that have no bound, in the promise's order.
func decodingByBig(s string) (list []int, kind api.Errno, at int) {
	if len(s) > 1024 {
		return nil, api.ErrLong, 1024
	}
	from := 0
	if mark := strings.LastIndex(s, "-"); mark > 0 {
		for i := range mark {
			if s[i] > 127 {
				return nil, api.ErrForm, i
			}
			list = append(list, int(s[i]))
		}
		if mark > 256 {
			return nil, api.ErrMany, mark + 1
		}
		from = mark + 1
	}
	most := big.NewInt(1<<31 - 1)
	n, place, bias, first := 128, 0, 72, true
	for from < len(s) {
		number, weight := big.NewInt(0), big.NewInt(1)
		k := 36
		for ; ; k += 36 {
			if from == len(s) {
				return nil, api.ErrShort, from
			}
			d := strings.IndexByte(digits, strings.ToLower(s[from : from+1])[0])
			if s[from] > 127 || d < 0 {
				return nil, api.ErrForm, from
			}
			number.Add(number, new(big.Int).Mul(big.NewInt(int64(d)), weight))
			last := d < bound(k, bias)
			weight.Mul(weight, big.NewInt(int64(36-bound(k, bias))))
			if number.Cmp(most) > 0 || !last && weight.Cmp(most) > 0 {
				return nil, api.ErrRange, from
			}
			from++
			if last {
				break
			}
		}
		p := place + int(number.Int64())
		n += p / (len(list) + 1)
		place = p % (len(list) + 1)
		if n > 0x10ffff || n >= 0xd800 && n <= 0xdfff {
			return nil, api.ErrRange, from - 1
		}
		if len(list) == 256 {
			return nil, api.ErrMany, from - 1
		}
		list = slices.Insert(list, place, n)
		bias = adapted(int(number.Int64()), len(list), first)
		first = false
		place++
	}
	return list, 0, 0
}

// P9.1 and P9.3, and the chapter's first example.
func TestSamples(t *testing.T) {
	for s, want := range samples {
		encoded(t, charsOf(s), want)
	}
}

// P9.1 and P9.3: against the rule of places; all rows of three of some characters, and longer ones.
func TestEncodeByPlaces(t *testing.T) {
	some := []int{'-', 'a', 'Z', 127, 128, 129, 0xff, 0x2ff}
	for _, a := range some {
		encoded(t, []int{a}, encodingByPlaces([]int{a}))
		for _, b := range some {
			encoded(t, []int{a, b}, encodingByPlaces([]int{a, b}))
			for _, c := range some {
				encoded(t, []int{a, b, c}, encodingByPlaces([]int{a, b, c}))
			}
		}
	}
	source := rand.New(rand.NewSource(1))
	for range 400 {
		list := make([]int, source.Intn(40))
		for i := range list {
			list[i] = source.Intn(200 + source.Intn(1000))
		}
		encoded(t, list, encodingByPlaces(list))
	}
}

// P9.1 and P9.3: of every character.
func TestEncodeOfEveryCharacter(t *testing.T) {
	for c := 0; c <= 0x10ffff; c++ {
		s, err := puny.Encode([]int{c, 'a'})
		if c >= 0xd800 && c <= 0xdfff {
			wrong(t, "Encode of a half", err, api.ErrRange, 0)
			continue
		}
		back, errB := puny.Decode(s)
		if err != nil || errB != nil || !slices.Equal(back, []int{c, 'a'}) {
			t.Fatalf("%#x: %q, %v, %x, %v", c, s, err, back, errB)
		}
	}
}

// P9.1
func TestEncodeErrors(t *testing.T) {
	full := slices.Repeat([]int{'a'}, 256)
	encoded(t, full, strings.Repeat("a", 256)+"-")
	encoded(t, slices.Repeat([]int{0x80}, 256), strings.Repeat("a", 256))
	for _, c := range []int{'a', -1, 0x20ac} {
		s, err := puny.Encode(append(full, c))
		wrong(t, "Encode of too many", err, api.ErrLong, 256)
		same(t, "Encode of too many", s, "")
	}
	for _, c := range []int{math.MinInt, -1 << 32, -1, 0xd800, 0xdfff, 0x110000, 1<<32 + 'a', math.MaxInt} {
		for at := range 4 {
			list := []int{'a', 0xfc, 'b', 0x10ffff}
			list[at] = c
			s, err := puny.Encode(append(list, -1))
			wrong(t, "Encode of no character", err, api.ErrRange, at)
			same(t, "Encode of no character", s, "")
		}
	}
}

// P9.2: how many bytes there may be, ahead of all that is wrong with them.
func TestDecodeLong(t *testing.T) {
	for _, c := range []string{"a", "-", "!", "\xff", "9"} {
		undecoded(t, strings.Repeat(c, 1025), api.ErrLong, 1024)
	}
	undecoded(t, strings.Repeat("!", 1024), api.ErrForm, 0)
	undecoded(t, strings.Repeat("a", 1024), api.ErrMany, 256)
}

// P9.2: the part ahead of the last mark.
func TestDecodePlain(t *testing.T) {
	for s, want := range map[string]string{"": "", "a-": "a", "--": "-", "---": "--", "-a-": "-a", "a--": "a-", "A!-": "A!", "a-b!-": "a-b!", "\x00\x7f-": "\x00\x7f"} {
		decoded(t, s, charsOf(want))
	}
	for s, at := range map[string]int{"-": 0, "-abc": 0, "-a": 0, "é-a": 0, "aé-": 1, "a\x80b\xff-!": 1, "a-\xff-": 2} {
		undecoded(t, s, api.ErrForm, at)
	}
	most := strings.Repeat("x", 256)
	decoded(t, most+"-", charsOf(most))
	undecoded(t, most+"x-", api.ErrMany, 258)
	undecoded(t, most+"x-!", api.ErrMany, 258)
	undecoded(t, most+"--", api.ErrMany, 258)
	undecoded(t, most+"xyz\xff-!", api.ErrForm, 259)
}

// P9.2: of every byte it is known whether it is a digit, and which.
func TestDecodeEveryDigit(t *testing.T) {
	for i := range 256 {
		s := string([]byte{byte(i)})
		d := strings.Index(digits, strings.ToLower(s))
		if i > 127 || d < 0 {
			undecoded(t, s, api.ErrForm, 0)
			if s != "-" { // which would end the part ahead
				undecoded(t, "bcher-k"+s+"a", api.ErrForm, 7)
			}
			continue
		}
		if d == 0 {
			decoded(t, s, []int{128})
			continue
		}
		undecoded(t, s, api.ErrShort, 1)
		decoded(t, s+"a", []int{128 + d})
		decoded(t, s+"Aa", []int{128 + d, 128 + d})
		decoded(t, s+"BA", []int{128 + d + 35})
	}
	for _, s := range []string{"bcher-KVA", "bcher-Kva", "bcher-kvA"} {
		decoded(t, s, charsOf("bücher"))
	}
}

// P9.2: where a number ends, and where the text does.
func TestDecodeErrors(t *testing.T) {
	for _, c := range []struct {
		s    string
		kind api.Errno
		at   int
	}{
		{"9", api.ErrShort, 1}, {"b", api.ErrShort, 1}, {"99", api.ErrShort, 2}, {"bcher-kv", api.ErrShort, 8}, {"bcher-k", api.ErrShort, 7}, {"tda0", api.ErrShort, 4}, {"9999999", api.ErrShort, 7},
		{"a!", api.ErrForm, 1}, {"b!a", api.ErrForm, 1}, {"tda tda", api.ErrForm, 3}, {"td\xff", api.ErrForm, 2}, {"tda!b", api.ErrForm, 3},
		{"99999999", api.ErrRange, 7}, {"9999999!", api.ErrForm, 7}, {"99999999!", api.ErrRange, 7}, {"x-99999999a", api.ErrRange, 9},
	} {
		undecoded(t, c.s, c.kind, c.at)
	}
}

// P9.2: the last character, the ones next to the halves, and the numbers next to theirs.
func TestDecodeOfNoCharacter(t *testing.T) {
	for c, right := range map[int]bool{0xd7ff: true, 0xd800: false, 0xdbff: false, 0xdc00: false, 0xdfff: false, 0xe000: true, 0x10ffff: true, 0x110000: false, 0x7fffffff: false, 1 << 31: false} {
		s := numberDigits(c-128, 72)
		if right {
			decoded(t, s, []int{c})
		} else {
			undecoded(t, s, api.ErrRange, len(s)-1)
			undecoded(t, s+"!", api.ErrRange, len(s)-1)
		}
	}
	// Behind two others each number has three places, of which the last one is behind both.
	for c, right := range map[int]bool{0xd7ff: true, 0xd800: false, 0xdfff: false, 0xe000: true, 0x10ffff: true, 0x110000: false} {
		s := "xy-" + numberDigits((c-128)*3+2, 72)
		if right {
			decoded(t, s, []int{'x', 'y', c})
		} else {
			undecoded(t, s, api.ErrRange, len(s)-1)
		}
	}
}

// P9.2: how many characters there may be.
func TestDecodeMany(t *testing.T) {
	decoded(t, strings.Repeat("a", 256), slices.Repeat([]int{128}, 256))
	undecoded(t, strings.Repeat("a", 257), api.ErrMany, 256)
	undecoded(t, strings.Repeat("a", 256)+"!", api.ErrForm, 256)
	plain := strings.Repeat("x", 255)
	decoded(t, plain+"-a", append([]int{128}, charsOf(plain)...))
	undecoded(t, plain+"-aa", api.ErrMany, 257)
	undecoded(t, plain+"x-a", api.ErrMany, 257)
	undecoded(t, plain+"x-tda", api.ErrMany, 259)
	undecoded(t, plain+"x-tda!", api.ErrMany, 259)
	undecoded(t, plain+"x-td", api.ErrShort, 259)
	// The character is told ahead of their number.
	s := plain + "x-" + numberDigits((0xd800-128)*257, 72)
	undecoded(t, s, api.ErrRange, len(s)-1)
}

// P9.2: against the promise's words, with numbers that have no bound.
func TestDecodeByBig(t *testing.T) {
	source := rand.New(rand.NewSource(2))
	among := []string{digits, "9", "z9", "ab", digits + "ABCXYZ-", "aaaaaaaz-!\xff"}
	for i := range 60000 {
		kinds := among[i%len(among)]
		b := make([]byte, source.Intn(14))
		for j := range b {
			b[j] = kinds[source.Intn(len(kinds))]
		}
		asByBig(t, strings.Repeat("x-", i%3)+string(b))
	}
	for s := range samples {
		text, _ := puny.Encode(charsOf(s))
		for at := range len(text) {
			for _, c := range "az09A-!" {
				asByBig(t, text[:at]+string(c)+text[at+1:])
				asByBig(t, text[:at]+string(c)+text[at:])
			}
			asByBig(t, text[:at]+text[at+1:])
			asByBig(t, text[:at])
		}
	}
}

func asByBig(t *testing.T, s string) {
	t.Helper()
	list, kind, at := decodingByBig(s)
	if kind == 0 {
		decoded(t, s, list)
	} else {
		undecoded(t, s, kind, at)
	}
}

// P9.3: there and back, up to as many characters and bytes as there may be.
func TestDecodeOfEncode(t *testing.T) {
	source := rand.New(rand.NewSource(3))
	sizes := map[bool]int{}
	for i := range 600 {
		list := make([]int, 200+source.Intn(57))
		for j := range list {
			list[j] = source.Intn(0xd800)
			if source.Intn(600) < i {
				list[j] = 0xe000 + source.Intn(0x102000)
			}
		}
		s, err := puny.Encode(list)
		same(t, "Encode's error", err, error(nil))
		sizes[len(s) <= 1024]++
		if len(s) <= 1024 {
			decoded(t, s, list)
		} else {
			undecoded(t, s, api.ErrLong, 1024)
		}
	}
	if sizes[true] == 0 || sizes[false] == 0 {
		t.Errorf("of at most 1024 bytes, and of more: %v", sizes)
	}
}

// P9.3: the greatest encoding that Decode takes.
func TestDecodeOfTheLongest(t *testing.T) {
	source := rand.New(rand.NewSource(4))
	for range 10000 {
		list := make([]int, 200+source.Intn(57))
		for i := range list {
			list[i] = 0x10000 + source.Intn(0x100000)
		}
		s, _ := puny.Encode(list)
		if len(s) == 1024 {
			decoded(t, s, list)
			undecoded(t, s+"a", api.ErrLong, 1024)
			return
		}
	}
	t.Error("no encoding of 1024 bytes was met")
}

// P9.3
func TestAdapt(t *testing.T) {
	for _, c := range []struct {
		delta, count int
		first        bool
		want         int
	}{
		{0, 1, true, 0}, {0, 1, false, 0}, {699, 1, true, 0}, {700, 1, true, 1}, {745, 6, true, 0}, {745, 6, false, 33}, {910, 1000, false, 33}, {911, 1000, false, 33}, {912, 1000, false, 45},
		{700 * 455, 456, true, 33}, {700 * 456, 457, true, 45}, {math.MaxInt, math.MaxInt, true, 353}, {1 << 31, 256, false, 192},
		{-1, 1, true, 0}, {-1, 1, false, 0}, {math.MinInt, 1, false, 0}, {9999, 0, true, 0}, {9999, 0, false, 0}, {9999, -1, false, 0}, {9999, math.MinInt, true, 0}, {-9999, -9999, false, 0},
	} {
		if got := puny.Adapt(c.delta, c.count, c.first); got != c.want {
			t.Errorf("%v: got %d", c, got)
		}
	}
	for delta := 0; delta < 2000000; delta += 1 + delta/50 {
		for _, count := range []int{1, 2, 3, 10, 256, 257, 5000} {
			for _, first := range []bool{false, true} {
				if got, want := puny.Adapt(delta, count, first), adapted(delta, count, first); got != want {
					t.Errorf("%d, %d, %v: got %d, want %d", delta, count, first, got, want)
				}
			}
		}
	}
}

// P9.4: neither what is handed in nor its spare room is written to, nor kept.
func TestHandedInStays(t *testing.T) {
	room := append(charsOf("zürich ñandú"), 1, 2, 3, 4, 5, 6, 7, 8)
	before := slices.Clone(room)
	s, err := puny.Encode(room[:12])
	same(t, "the characters", room, before)
	want := strings.Clone(s)
	clear(room)
	same(t, "the text, when the characters are written over", s, want)
	same(t, "its error", err, error(nil))
}

// P9.4: answers lie in none of what is handed in, and in none of another answer.
func TestAnswersAreNew(t *testing.T) {
	for _, s := range []string{"abc-", "bcher-kva", "ihqwcrb4cv8a8dqg056pqjye", "aaaa"} {
		first, _ := puny.Decode(s)
		second, _ := puny.Decode(s)
		want := slices.Clone(second)
		clear(first[:cap(first)])
		same(t, "Decode, when another answer is written over", second, want)
		textA, _ := puny.Encode(second)
		textB, _ := puny.Encode(second)
		if unsafe.StringData(textA) == unsafe.StringData(textB) {
			t.Errorf("%q lies in another answer", textA)
		}
	}
	_, errA := puny.Decode("!")
	_, errB := puny.Decode("!")
	errA.(*api.Fault).At = 9
	wrong(t, "Decode", errB, api.ErrForm, 0)
}

// P1 and P2: all calls end, none panics, and a second run answers what the first one did.
func TestAnyArguments(t *testing.T) {
	var everyByte []byte
	for i := range 256 {
		everyByte = append(everyByte, byte(i))
	}
	texts := []string{"", "-", string(everyByte), strings.Repeat("-", 2000), strings.Repeat("9", 99), strings.Repeat("z", 1024), strings.Repeat("b9a", 300), strings.Repeat("é", 500)}
	numbers := []int{math.MinInt, -1, 0, 1, 35, 36, 127, 128, 455, 0xd800, 0x10ffff, 0x110000, math.MaxInt - 1, math.MaxInt}
	run := func() []any {
		var all []any
		keep := func(answers ...any) { all = append(all, answers...) }
		for _, s := range texts {
			list, err := puny.Decode(s)
			keep(list, err)
			text, err := puny.Encode(charsOf(s))
			keep(text, err)
		}
		for _, n := range numbers {
			for _, m := range numbers {
				text, err := puny.Encode([]int{n, m})
				keep(text, err, puny.Adapt(n, m, true), puny.Adapt(n, m, false))
			}
		}
		return all
	}
	same(t, "the second run", run(), run())
}
