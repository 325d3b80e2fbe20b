package fresh_test

import (
	"errors"
	"math"
	"math/big"
	"reflect"
	"regexp"
	"slices"
	"strconv"
	"strings"
	"testing"
	"unsafe"

	"waybill/api"
	"waybill/fresh"
)

const most uint64 = math.MaxUint64

// everyByte has each byte once, in order.
var everyByte = func() string {
	b := make([]byte, 256)
	for i := range b {
		b[i] = byte(i)
	}
	return string(b)
}()

// bare is a directive without a value, pair one with a value.
func bare(name string) api.Item        { return api.Item{Name: name} }
func pair(name, value string) api.Item { return api.Item{Name: name, Value: value, Has: true} }

func list(items ...api.Item) []api.Item { return items }

func same(t *testing.T, what string, got, want any) {
	t.Helper()
	if !reflect.DeepEqual(got, want) {
		t.Errorf("%q: got %#v, want %#v", what, got, want)
	}
}

// directs asks for the directives, whether there are some or none.
func directs(t *testing.T, s string, want []api.Item) {
	t.Helper()
	got, err := fresh.Directives(s)
	if err != nil || !slices.Equal(got, want) {
		t.Errorf("Directives of %q: got %#v, %v, want %#v", s, got, err, want)
	}
}

// refuses asks for the error itself, for what errors.Is and errors.As tell of it, and for nothing beside it.
func refuses(t *testing.T, s string, kind api.Errno, at int) {
	t.Helper()
	got, err := fresh.Directives(s)
	var f *api.Fault
	if !errors.As(err, &f) {
		t.Errorf("Directives of %q: got %v, want errno %d at %d", s, err, kind, at)
		return
	}
	if f.Kind != kind || f.At != at || !errors.Is(err, kind) {
		t.Errorf("Directives of %q: got errno %d at %d, want %d at %d", s, f.Kind, f.At, kind, at)
	}
	if len(got) != 0 {
		t.Errorf("Directives of %q: %#v beside an error", s, got)
	}
	same(t, "the life of "+s, fresh.Life(s), uint64(86400))
}

// words are all texts of at most so many of the letters, the empty one among them.
func words(letters []string, most int) []string {
	all, from := []string{""}, 0
	for range most {
		to := len(all)
		for _, w := range all[from:to] {
			for _, l := range letters {
				all = append(all, w+l)
			}
		}
		from = to
	}
	return all
}

// P18.1
func TestDirectives(t *testing.T) {
	for s, want := range map[string][]api.Item{
		"": nil, ",": nil, " , \t,\r\n": nil, strings.Repeat(",", 1000): nil, strings.Repeat(" ", 1000): nil,
		"public": list(bare("public")), "No-Store": list(bare("no-store")), "a,b": list(bare("a"), bare("b")), "b,a,b": list(bare("b"), bare("a"), bare("b")), "a=1,a=2,A": list(pair("a", "1"), pair("a", "2"), bare("a")), ",a,,b,": list(bare("a"), bare("b")),
		" a ": list(bare("a")), "\t\r\n a\n\r \t,\nb\n": list(bare("a"), bare("b")), " a=b ,\tc=\"d\"\t": list(pair("a", "b"), pair("c", "d")),
		"Max-Age=600": list(pair("max-age", "600")), "a=B": list(pair("a", "B")), "a=\"B\"": list(pair("a", "B")), "a=\"\"": list(pair("a", "")), "a=\" b \"": list(pair("a", " b ")), "a=\"=\"": list(pair("a", "=")), "a=\"b=c;d\"": list(pair("a", "b=c;d")), "a=\"\xffé\n\x00\"": list(pair("a", "\xffé\n\x00")),
		"!#$%&'*+-.^_`|~=!#$%&'*+-.^_`|~": list(pair("!#$%&'*+-.^_`|~", "!#$%&'*+-.^_`|~")),
		strings.Repeat("A", 100):          list(bare(strings.Repeat("a", 100))), "a=" + strings.Repeat("B", 100): list(pair("a", strings.Repeat("B", 100))), "a=\"" + strings.Repeat("B", 996) + "\"": list(pair("a", strings.Repeat("B", 996))),
		" public ,, Max-Age=\"5\",x=y": list(bare("public"), pair("max-age", "5"), pair("x", "y")), "private, max-age=0, must-revalidate": list(bare("private"), pair("max-age", "0"), bare("must-revalidate")),
	} {
		directs(t, s, want)
	}
	// Between quotes all stands but quotes, escapes and commas.
	for i := range 256 {
		c := everyByte[i : i+1]
		if strings.Contains("\"\\,", c) {
			refuses(t, "a=\"1"+c+"2\"", api.ErrForm, 0)
			continue
		}
		directs(t, "a=\"1"+c+"2\"", list(pair("a", "1"+c+"2")))
	}
}

// P18.1: the place is the part's beginning, its blanks among it.
func TestDirectivesForm(t *testing.T) {
	for _, s := range []string{
		"b c", "=", "=1", "a=", "a==", "a=b=c", "a =1", "a= 1", "a b=1", "a=1 2", "\"", "\"a\"", "\"a\"=1", "a=\"", "a=\"b", "a=b\"", "a=\"b\"c", "a=\"b\" c", "a=\"\"\"", "a=\"\"b\"\"", "a=\"\\\"", "a=\"\\\"\"", "a=\"b\\c\"", "a='b c'", "a;b", "a/b", "a:b", "é", "a=é", "\xff", "a=\xff", "\x00", "a\x00", "a=\x00", "\u00a0a", "a@", "a=\"b\"=c",
		strings.Repeat("a", 101), strings.Repeat("a", 101) + "=1", "a=" + strings.Repeat("1", 101),
	} {
		refuses(t, s, api.ErrForm, 0)
		refuses(t, " "+s+" ", api.ErrForm, 0)
		refuses(t, s+",b c", api.ErrForm, 0)
		refuses(t, "a,"+s, api.ErrForm, 2)
		refuses(t, ",, a=\"1\" ,\t \n"+s+"\n,=,", api.ErrForm, 10)
	}
	refuses(t, "a=\"b,c\"", api.ErrForm, 0)
	refuses(t, "a,a=\"b,c\"", api.ErrForm, 2)
	refuses(t, "a,b\",c", api.ErrForm, 2)
}

// P18.1: how long it may be, and how many; empty ones are none of the 32.
func TestDirectivesMany(t *testing.T) {
	full := strings.Repeat("a,", 31) + "B=1"
	want := append(slices.Repeat(list(bare("a")), 31), pair("b", "1"))
	directs(t, full, want)
	directs(t, full+",", want)
	directs(t, ", ,"+strings.ReplaceAll(full, ",", ",\t,,")+strings.Repeat(",", 500), want)
	for _, last := range []string{"a", "a=1", " a ", "a,b", "a,=", "a=\"1\","} {
		refuses(t, full+","+last, api.ErrMany, len(full)+1)
		refuses(t, ",,"+full+",,, ,"+last, api.ErrMany, len(full)+7)
	}
	// What is no directive isn't the one behind the 32nd.
	for _, last := range []string{"=", "a=", "a b", "\xff"} {
		refuses(t, full+","+last, api.ErrForm, len(full)+1)
		refuses(t, full+",a,"+last, api.ErrMany, len(full)+1)
	}
	refuses(t, strings.Repeat("a,", 500), api.ErrMany, 64)
	refuses(t, strings.Repeat("a,", 31)+"=,a", api.ErrForm, 62)
	refuses(t, "="+strings.Repeat(",a", 499), api.ErrForm, 0)
	directs(t, full+strings.Repeat(" ", 1000-len(full)), want)
	for _, s := range []string{full, "", "=", "a", strings.Repeat("a,", 33), ","} {
		refuses(t, s+strings.Repeat(" ", 1001-len(s)), api.ErrLong, 1000)
	}
	refuses(t, strings.Repeat(",", 1001), api.ErrLong, 1000)
	refuses(t, strings.Repeat("=", 99999), api.ErrLong, 1000)
}

// form is the chapter's form of a directive, by the language's own patterns.
var form = func() *regexp.Regexp {
	token := "[" + regexp.QuoteMeta("!#$%&'*+-.^_`|~") + "0-9A-Za-z]{1,100}"
	return regexp.MustCompile("^(" + token + ")(?:(=)(?:(" + token + `)|"([^"\\,]*)"))?$`)
}()

// asForm reads a short text by the chapter's forms.
func asForm(s string) (all []api.Item, at int, ok bool) {
	for _, part := range strings.Split(s, ",") {
		if inner := strings.Trim(part, " \t\r\n"); inner != "" {
			p := form.FindStringSubmatch(inner)
			if p == nil {
				return nil, at, false
			}
			all = append(all, api.Item{Name: strings.ToLower(p[1]), Value: p[3] + p[4], Has: p[2] != ""})
		}
		at += len(part) + 1
	}
	return all, 0, true
}

// P18.1: of all short texts.
func TestDirectivesOfAll(t *testing.T) {
	for _, s := range slices.Concat(words([]string{"a", "B", "=", ",", "\"", " ", "\\"}, 6), words([]string{"a=", "=b", "\"", "\xff", ",", "\n"}, 5)) {
		all, at, ok := asForm(s)
		if !ok {
			refuses(t, s, api.ErrForm, at)
			continue
		}
		directs(t, s, all)
	}
}

// P18.2, and the chapter's example.
func TestLife(t *testing.T) {
	for s, want := range map[string]uint64{
		"": 86400, ",": 86400, "public": 86400, "public, Max-Age=600": 600, "max-age=600": 600, "MAX-AGE=\"600\"": 600, "max-age=\"600\",": 600, "max-age=0000000600": 600, " max-age=301 ": 301,
		"max-age=0": 300, "max-age=1": 300, "max-age=299": 300, "max-age=300": 300, "max-age=86400": 86400, "max-age=604799": 604799, "max-age=604800": 604800, "max-age=604801": 604800, "max-age=9999999": 604800,
		"max-age=18446744073709551615": 604800, "max-age=18446744073709551616": 86400, "max-age=99999999999999999999": 86400, "max-age=4294967296": 604800, "max-age=00000000000000000000018446744073709551615": 604800,
		"max-age=18446744073709551616, max-age=700": 700, "max-age=a, max-age=700": 700, "max-age, max-age=700": 700, "max-age=\"\", max-age=700": 700, "max-age=600,max-age=700": 600, "max-age=1,max-age=700": 300, "max-age=9999999,max-age=700": 604800, "max-age=-1,max-age=700,max-age=800": 700,
		"max-age": 86400, "max-age=a": 86400, "max-age=\"\"": 86400, "max-age=\" 600\"": 86400, "max-age=\"600 \"": 86400, "max-age=-600": 86400, "max-age=+600": 86400, "max-age=600.5": 86400, "max-age=0x600": 86400, "max-age=6_00": 86400, "max-age='600'": 86400, "s-maxage=600": 86400, "maxage=600": 86400, "max-ages=600": 86400, "x-max-age=600": 86400,
		"no-store": 300, "no-cache": 300, "No-Store": 300, "NO-CACHE": 300, "no-store, max-age=600": 300, "max-age=600, no-cache": 300, "max-age=600,a,no-store,b": 300, "max-age=99999999, no-store": 300, "max-age=a,no-cache": 300, "no-cache,no-store": 300, "no-cache=\"x\"": 300, "no-store=1, max-age=600": 300,
		"no-storex, max-age=600": 600, "xno-cache, max-age=600": 600, "store, max-age=600": 600, "no-transform, max-age=600": 600, "x=no-store, max-age=600": 600, "x=\"no-cache\", max-age=600": 600, "nostore": 86400,
		"a b": 86400, "no-store, =": 86400, "max-age=600,=": 86400, "=,max-age=600": 86400, "no-cache=": 86400, "max-age=600,a=\"b,c\"": 86400, "max-age =600": 86400, "max-age= 600": 86400,
		"max-age=600" + strings.Repeat(",a", 31): 600, "max-age=600" + strings.Repeat(",a", 32): 86400, "no-store" + strings.Repeat(",a", 32): 86400, strings.Repeat("a,", 31) + "max-age=600": 600, strings.Repeat(" ", 989) + "max-age=600": 600, strings.Repeat(" ", 990) + "max-age=600": 86400, strings.Repeat(" ", 993) + "no-store": 86400,
	} {
		same(t, "the life of "+s, fresh.Life(s), want)
	}
	for n := range uint64(2000) {
		same(t, "the life of a number", fresh.Life("max-age="+strconv.FormatUint(n, 10)), max(n, 300))
		same(t, "the life of a great number", fresh.Life("max-age="+strconv.FormatUint(604800-1000+n, 10)), min(604800-1000+n, 604800))
	}
}

// waits are the first waits, as the chapter's rule gives them.
var waits = []uint64{0, 60, 120, 240, 480, 960, 1920, 3840, 7680, 15360, 30720, 61440, 86400, 86400, 86400}

// P18.3, and the chapter's example.
func TestWait(t *testing.T) {
	for n, want := range waits {
		same(t, "the wait of "+strconv.Itoa(n), fresh.Wait(n), want)
	}
	for n := 12; n < 300; n++ {
		same(t, "the wait of "+strconv.Itoa(n), fresh.Wait(n), uint64(86400))
	}
	for _, n := range []int{1000, 1<<31 - 1, 1 << 31, 1 << 32, 1<<32 + 1, 1 << 62, math.MaxInt, math.MaxInt - 1} {
		same(t, "the wait of "+strconv.Itoa(n), fresh.Wait(n), uint64(86400))
	}
	for _, n := range []int{0, -1, -2, -11, -12, -64, math.MinInt32, math.MinInt, math.MinInt + 1} {
		same(t, "the wait of "+strconv.Itoa(n), fresh.Wait(n), uint64(0))
	}
}

// P18.3
func TestTotal(t *testing.T) {
	sum := uint64(0)
	for n := range 5000 {
		sum += fresh.Wait(n)
		same(t, "the waits up to "+strconv.Itoa(n), fresh.Total(n), sum)
	}
	for n, want := range map[int]uint64{0: 0, 1: 60, 2: 180, 3: 420, 11: 122820, 12: 209220, 13: 295620, -1: 0, -13: 0, math.MinInt: 0} {
		same(t, "the waits up to "+strconv.Itoa(n), fresh.Total(n), want)
	}
	// The edge is where the whole is no number of 64 bits any more.
	edge := int(most/86400) + 11 - 1
	for n := edge - 100; n < edge+100; n++ {
		same(t, "the waits up to "+strconv.Itoa(n), fresh.Total(n), asSum(n))
	}
	same(t, "whether the edge is among those", asSum(edge-100) < most && asSum(edge+99) == most, true)
	for _, n := range []int{1 << 32, 1 << 40, 1 << 47, 1 << 48, 1 << 62, math.MaxInt - 1, math.MaxInt} {
		same(t, "the waits up to "+strconv.Itoa(n), fresh.Total(n), asSum(n))
	}
}

// asSum is the waits' sum by numbers of any size.
func asSum(n int) uint64 {
	sum := new(big.Int).Mul(big.NewInt(int64(n-11)), big.NewInt(86400))
	sum.Add(sum, big.NewInt(122820))
	if !sum.IsUint64() {
		return most
	}
	return sum.Uint64()
}

// P18.3
func TestLater(t *testing.T) {
	edges := []uint64{0, 1, 2, 59, 86400, 1<<32 - 1, 1 << 32, 1<<63 - 1, 1 << 63, 1<<63 + 1, most - 2, most - 1, most}
	for _, now := range edges {
		for _, n := range edges {
			sum := new(big.Int).Add(new(big.Int).SetUint64(now), new(big.Int).SetUint64(n))
			want := most
			if sum.IsUint64() {
				want = sum.Uint64()
			}
			same(t, "later by "+strconv.FormatUint(n, 10), fresh.Later(now, n), want)
		}
	}
	same(t, "later", fresh.Later(1, 2), uint64(3))
}

// share tells whether two texts lie in one memory.
func share(a, b string) bool {
	from := func(s string) uintptr { return uintptr(unsafe.Pointer(unsafe.StringData(s))) }
	return a != "" && b != "" && from(a) < from(b)+uintptr(len(b)) && from(b) < from(a)+uintptr(len(a))
}

// P18.4: answers lie neither in what is handed in nor in another answer.
func TestAnswersAreNew(t *testing.T) {
	const s = "public, name=value, other=\"another one\""
	all, err := fresh.Directives(s)
	same(t, "the error", err, error(nil))
	again, _ := fresh.Directives(s)
	for _, d := range all {
		same(t, "whether a directive lies in the text", share(d.Name, s) || share(d.Value, s), false)
	}
	clear(all[:cap(all)])
	same(t, "Directives, when another answer is written over", again, list(bare("public"), pair("name", "value"), pair("other", "another one")))
	_, errA := fresh.Directives("a,=")
	errA.(*api.Fault).At = 9
	refuses(t, "a,=", api.ErrForm, 2)
}

// P1 and P2: all calls end, none panics, and a second run answers what the first one did.
func TestAnyArguments(t *testing.T) {
	texts := append(words([]string{"a", "=", ",", "\"", "\\", "\xff", "max-age="}, 3), everyByte, "a=\""+everyByte, strings.Repeat("\"", 1000), strings.Repeat("\\", 1000), strings.Repeat("a", 99999), strings.Repeat("a,", 500), strings.Repeat("=", 1000))
	numbers := []int{0, 1, -1, 11, 12, 63, 64, 65, math.MaxInt, math.MinInt, math.MaxInt32, math.MinInt32}
	run := func() []any {
		var answers []any
		keep := func(more ...any) { answers = append(answers, more...) }
		for _, s := range texts {
			all, err := fresh.Directives(s)
			keep(all, err, fresh.Life(s))
		}
		for _, n := range numbers {
			keep(fresh.Wait(n), fresh.Total(n))
			for _, m := range numbers {
				keep(fresh.Later(uint64(n), uint64(m)))
			}
		}
		return answers
	}
	same(t, "the second run", run(), run())
}
