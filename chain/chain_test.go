package chain_test

import (
	"errors"
	"reflect"
	"slices"
	"strconv"
	"strings"
	"testing"

	"waybill/api"
	"waybill/chain"
	"waybill/links"
)

const root = "https://x.com/.well-known/assetlinks.json"

var (
	site = api.Host{Kind: api.HostName, Text: "x.com"}

	print1 = api.Print{1}
	text1  = "01" + strings.Repeat(":00", 31)
)

func same(t *testing.T, what string, got, want any) {
	t.Helper()
	if !reflect.DeepEqual(got, want) {
		t.Errorf("%.300q: got %#v, want %#v", what, got, want)
	}
}

// sameTexts holds no list and one without elements for one.
func sameTexts(t *testing.T, what string, got []string, want ...string) {
	t.Helper()
	if !slices.Equal(got, want) {
		t.Errorf("%.300q: got %q, want %q", what, got, want)
	}
}

// bare makes lists without elements nil: these are one.
func bare(list []api.Statement) []api.Statement {
	var others []api.Statement
	for _, s := range list {
		s.Relations = append([]string(nil), s.Relations...)
		s.Prints = append([]api.Print(nil), s.Prints...)
		others = append(others, s)
	}
	return others
}

// wrong asks for the error itself, and for what errors.Is and errors.As tell of it.
func wrong(t *testing.T, what string, err error, kind api.Errno, at int) {
	t.Helper()
	var f *api.Fault
	if !errors.As(err, &f) {
		t.Errorf("%.300q: got %v, want errno %d at %d", what, err, kind, at)
		return
	}
	if f.Kind != kind || f.At != at || !errors.Is(err, kind) {
		t.Errorf("%.300q: got errno %d at %d, want %d at %d", what, f.Kind, f.At, kind, at)
	}
}

// in, app, web and other are statements of documents, and what is told by them.
func in(s string) string { return `{"include":"` + s + `"}` }

func app(name string) string {
	return `{"relation":["a/b"],"target":{"namespace":"android_app","package_name":"` + name + `","sha256_cert_fingerprints":["` + text1 + `"]}}`
}

func toldApp(name string) api.Statement {
	return api.Statement{Kind: api.StApp, Relations: []string{"a/b"}, Package: name, Prints: []api.Print{print1}}
}

func web(s string) string {
	return `{"relation":[],"target":{"namespace":"web","site":"` + s + `"}}`
}

func toldWeb(s string) api.Statement { return api.Statement{Kind: api.StWeb, Site: s} }

func other(relation string) string {
	return `{"relation":["` + relation + `"],"target":{"namespace":"z"}}`
}

func toldOther(relation string) api.Statement {
	return api.Statement{Kind: api.StOther, Relations: []string{relation}}
}

// doc is a fetch that a document came of.
func doc(statements ...string) api.Fetched {
	return api.Fetched{Body: []byte("[" + strings.Join(statements, ",") + "]")}
}

// numbered gives the URL of a number, and the statements that include those of some numbers, up to the last one.
func numbered(n int) string { return "https://h" + strconv.Itoa(n) + "/" }

func numbers(from, to int) []string {
	var list []string
	for n := from; n <= to; n++ {
		list = append(list, in(numbered(n)))
	}
	return list
}

func deliver(t *testing.T, c *chain.Chain, outcomes ...api.Fetched) {
	t.Helper()
	for i, f := range outcomes {
		same(t, "what Deliver answers to outcome "+strconv.Itoa(i), c.Deliver(f), error(nil))
	}
}

// waits asks that a chain goes on with a URL.
func waits(t *testing.T, c *chain.Chain, next string) {
	t.Helper()
	got, ok := c.Next()
	same(t, "Next", []any{got, ok}, []any{next, true})
	same(t, "Done, while it goes on", c.Done(), false)
	same(t, "Err, while it goes on", c.Err(), error(nil))
	same(t, "how many Statements, while it goes on", len(c.Statements()), 0)
}

// ended asks that a chain is done, and that nothing more is taken.
func ended(t *testing.T, c *chain.Chain) {
	t.Helper()
	asked, told := c.Asked(), bare(c.Statements())
	for _, f := range []api.Fetched{doc(), doc(app("com.late"), in("https://late/")), {Err: api.Fail(api.ErrTime, 3)}, {}} {
		got, ok := c.Next()
		same(t, "Next of what is done", []any{got, ok}, []any{"", false})
		same(t, "Done", c.Done(), true)
		err := c.Deliver(f)
		wrong(t, "Deliver to what is done", err, api.ErrState, 0)
		same(t, "the error within", errors.Unwrap(err), error(nil))
	}
	sameTexts(t, "Asked behind it", c.Asked(), asked...)
	same(t, "Statements behind it", bare(c.Statements()), told)
}

// tells asks that a chain has ended well, and for what it tells.
func tells(t *testing.T, c *chain.Chain, want ...api.Statement) {
	t.Helper()
	ended(t, c)
	same(t, "Err", c.Err(), error(nil))
	same(t, "Statements", bare(c.Statements()), bare(want))
}

// failed asks that a chain has failed, and for its error, and what is within.
func failed(t *testing.T, c *chain.Chain, kind api.Errno, inner error) {
	t.Helper()
	ended(t, c)
	wrong(t, "Err", c.Err(), kind, 0)
	same(t, "the error within", errors.Unwrap(c.Err()), inner)
	same(t, "how many Statements behind a failure", len(c.Statements()), 0)
}

// P23.1
func TestRoot(t *testing.T) {
	for want, h := range map[string]api.Host{
		root: site,
		"https://127.0.0.1/.well-known/assetlinks.json":     {Kind: api.HostV4, Text: "127.0.0.1"},
		"https://[::1]/.well-known/assetlinks.json":         {Kind: api.HostV6, Text: "::1"},
		"https://xn--bcher-kva/.well-known/assetlinks.json": {Kind: api.HostName, Text: "xn--bcher-kva"},
		"https:///.well-known/assetlinks.json":              {},
		"https://a b\xff/.well-known/assetlinks.json":       {Kind: 9, Text: "a b\xff"},
	} {
		same(t, "Root", chain.Root(h), want)
		c := chain.New(h)
		waits(t, c, want)
		sameTexts(t, "Asked", c.Asked(), want)
		deliver(t, c, doc(app("com.a")))
		tells(t, c, toldApp("com.a"))
		sameTexts(t, "Asked", c.Asked(), want)
	}
}

// P23.2, and the chapter's example.
func TestItself(t *testing.T) {
	for _, s := range []string{root, root + "#x", "HTTPS://X.com:443/.well-known/assetlinks%2ejson"} {
		c := chain.New(site)
		deliver(t, c, doc(in(s)))
		tells(t, c)
		sameTexts(t, "Asked", c.Asked(), root)
	}
	// Another query is another document.
	c := chain.New(site)
	deliver(t, c, doc(in(root+"?")))
	waits(t, c, root+"?")
}

// P23.1 to P23.3: documents come in the order in which they are first included, and what they tell in that order.
func TestLine(t *testing.T) {
	c := chain.New(site)
	for i, step := range []struct {
		f    api.Fetched
		next string
		line []string
	}{
		{doc(in("https://a/"), app("com.a"), in("https://b/"), other("r/1"), in("https://A:443#f")), "https://a/", []string{"https://a/", "https://b/"}},
		{doc(in("https://c/"), web("http://w"), in("https://b/"), in(root), in("https://a/")), "https://b/", []string{"https://a/", "https://b/", "https://c/"}},
		{doc(app("com.a"), in("https://d/")), "https://c/", []string{"https://a/", "https://b/", "https://c/", "https://d/"}},
		{doc(), "https://d/", []string{"https://a/", "https://b/", "https://c/", "https://d/"}},
	} {
		deliver(t, c, step.f)
		waits(t, c, step.next)
		waits(t, c, step.next)
		sameTexts(t, "Asked behind "+strconv.Itoa(i), c.Asked(), append([]string{root}, step.line...)...)
	}
	deliver(t, c, doc(other("r/2"), app("com.b")))
	tells(t, c, toldApp("com.a"), toldOther("r/1"), toldWeb("http://w"), toldApp("com.a"), toldOther("r/2"), toldApp("com.b"))
	sameTexts(t, "Asked", c.Asked(), root, "https://a/", "https://b/", "https://c/", "https://d/")
}

// faults are outcomes by which a document has an error, and that error.
func faults() map[string]struct {
	f     api.Fetched
	inner error
} {
	own := errors.New("own")
	status := api.Fail(api.ErrStatus, 7)
	list := map[string]struct {
		f     api.Fetched
		inner error
	}{
		"a status": {api.Fetched{Err: status}, status}, "an error of its own": {api.Fetched{Err: own}, own}, "a number": {api.Fetched{Err: api.ErrTime}, api.ErrTime},
		"an error beside a document": {api.Fetched{Err: status, Body: doc(app("com.z"), in("https://z/")).Body}, status}, "an error beside nonsense": {api.Fetched{Err: own, Body: []byte("[")}, own},
	}
	for _, body := range []string{"", "nonsense", "{}", "[1]", "[" + app("com.z") + "," + in("http://z/") + "]", "[" + in("https://z/") + ",{}]", "[" + app("com.z") + "," + app("z") + "]", "[]" + strings.Repeat(" ", api.MaxLinks)} {
		_, err := links.Decode([]byte(body))
		list["the document "+body] = struct {
			f     api.Fetched
			inner error
		}{api.Fetched{Body: []byte(body)}, err}
	}
	return list
}

// P23.2: a root that has an error ends it.
func TestFailedRoot(t *testing.T) {
	for _, x := range faults() {
		c := chain.New(site)
		deliver(t, c, x.f)
		failed(t, c, api.ErrDoc, x.inner)
		same(t, "whether its error is the one that was handed in, too", x.f.Err == nil || errors.Is(c.Err(), x.f.Err), true)
		sameTexts(t, "Asked", c.Asked(), root)
	}
	c := chain.New(site)
	deliver(t, c, api.Fetched{Body: []byte("[{}]")})
	same(t, "whether the error is of what the document's one came from", errors.Is(c.Err(), api.ErrName), true)
}

// P23.2: another document that has an error tells nothing, and the others are gone on with.
func TestFailedDocument(t *testing.T) {
	for _, x := range faults() {
		c := chain.New(site)
		deliver(t, c, doc(in("https://a/"), app("com.a"), in("https://b/")), x.f)
		waits(t, c, "https://b/")
		deliver(t, c, doc(app("com.b")))
		tells(t, c, toldApp("com.a"), toldApp("com.b"))
		sameTexts(t, "Asked", c.Asked(), root, "https://a/", "https://b/")
		c = chain.New(site)
		deliver(t, c, doc(app("com.a"), in("https://a/")), x.f)
		tells(t, c, toldApp("com.a"))
	}
}

// P23.2 and P23.3: ten documents beside the root, and one more.
func TestMost(t *testing.T) {
	var line []string
	for n := 1; n <= 10; n++ {
		line = append(line, numbered(n))
	}
	line = append([]string{root}, line...)

	c := chain.New(site)
	deliver(t, c, doc(append(numbers(1, 10), app("com.a"))...))
	for n := 1; n <= 10; n++ {
		waits(t, c, numbered(n))
		sameTexts(t, "Asked", c.Asked(), line...)
		// Those that are in the line come again without harm.
		deliver(t, c, doc(append(numbers(1, 10), in(root))...))
	}
	tells(t, c, toldApp("com.a"))

	for what, outcomes := range map[string][]api.Fetched{
		"eleven":                    {doc(append(numbers(1, 11), app("com.a"))...)},
		"twenty":                    {doc(numbers(1, 20)...)},
		"eleven, one of them again": {doc(append(numbers(1, 10), in(root), in(numbered(3)), in(numbered(11)), in(numbered(4)))...)},
		"ten, and one":              {doc(numbers(1, 10)...), doc(app("com.a"), in(numbered(11)))},
		"nine, and two":             {doc(numbers(1, 9)...), doc(), {Err: api.ErrTime}, doc(in(root), in(numbered(10)), in(numbered(11)))},
		"one by one":                {doc(numbers(1, 1)...), doc(numbers(2, 2)...), doc(numbers(3, 3)...), doc(numbers(4, 4)...), doc(numbers(5, 5)...), doc(numbers(6, 6)...), doc(numbers(7, 7)...), doc(numbers(8, 8)...), doc(numbers(9, 9)...), doc(numbers(10, 10)...), doc(numbers(11, 11)...)},
	} {
		c := chain.New(site)
		deliver(t, c, outcomes...)
		failed(t, c, api.ErrMany, nil)
		same(t, what+", whether it is a document's error", errors.Is(c.Err(), api.ErrDoc), false)
		sameTexts(t, what, c.Asked(), line...)
	}
}

// model is a chain by the chapter's words: what was delivered, and nothing of what comes of it.
type model struct{ outcomes []api.Fetched }

// standing is all that a chain can be asked.
type standing struct {
	next     string
	going    bool
	asked    []string
	told     []api.Statement
	kind     api.Errno
	inner    error
	refusals int
}

// stands goes through the outcomes from the first one on.
func (m model) stands() standing {
	s := standing{asked: []string{root}}
	gone := 0
	for _, f := range m.outcomes {
		if s.kind != 0 || gone == len(s.asked) {
			s.refusals++
			continue
		}
		gone++
		list, err := links.Decode(f.Body)
		if f.Err != nil {
			list, err = nil, f.Err
		}
		if err != nil && gone == 1 {
			s.kind, s.inner = api.ErrDoc, err
		}
		for _, x := range list {
			switch {
			case x.Kind != api.StInclude:
				s.told = append(s.told, x)
			case s.kind != 0 || slices.Contains(s.asked, x.Site):
			case len(s.asked) == 11:
				s.kind = api.ErrMany
			default:
				s.asked = append(s.asked, x.Site)
			}
		}
	}
	if s.going = s.kind == 0 && gone < len(s.asked); s.going {
		s.next = s.asked[gone]
	}
	if s.going || s.kind != 0 {
		s.told = nil
	}
	return s
}

// stood gives what a chain answers behind some outcomes.
func stood(outcomes []api.Fetched) standing {
	var s standing
	c := chain.New(site)
	for _, f := range outcomes {
		if err := c.Deliver(f); err != nil {
			s.refusals++
		}
	}
	s.next, s.going = c.Next()
	s.asked, s.told = c.Asked(), bare(c.Statements())
	var f *api.Fault
	if errors.As(c.Err(), &f) {
		s.kind, s.inner = f.Kind, f.Inner
	}
	if c.Done() == s.going {
		s.refusals = -1
	}
	return s
}

// P23.1 to P23.3: every row of up to five outcomes of some, against the chapter's words.
func TestEveryRow(t *testing.T) {
	bad := errors.New("bad")
	some := []api.Fetched{
		doc(), {Err: bad}, doc(app("com.a"), in("https://h1/"), in(root), in("https://h2/")), doc(in("https://h2/"), web("https://w"), in("https://h3/"), in("https://h1/")), doc(numbers(2, 6)...), doc(append(numbers(4, 10), other("a/b"))...), doc(append(numbers(7, 12), app("com.b"))...),
	}
	var grow func(outcomes []api.Fetched)
	grow = func(outcomes []api.Fetched) {
		got, want := stood(outcomes), model{outcomes}.stands()
		want.told = bare(want.told)
		if !reflect.DeepEqual(got, want) {
			t.Errorf("behind %v: got %v, want %v", outcomes, got, want)
		}
		holdsAlways(t, got.asked)
		if len(outcomes) == 5 || want.refusals > 1 || t.Failed() {
			return
		}
		for _, f := range some {
			grow(append(slices.Clone(outcomes), f))
		}
	}
	grow(nil)
}

// holdsAlways asks for what P23.3 says of any line.
func holdsAlways(t *testing.T, asked []string) {
	t.Helper()
	there := map[string]struct{}{}
	for _, s := range asked {
		there[s] = struct{}{}
	}
	if len(asked) > 11 || len(there) != len(asked) || asked[0] != root || slices.ContainsFunc(asked, func(s string) bool { return !strings.HasPrefix(s, "https://") }) {
		t.Errorf("Asked: %q", asked)
	}
}

// P23.4: what is handed in stays, its spare room, too, and may be written over behind the call.
func TestArgumentsStay(t *testing.T) {
	text := string(doc(in("https://a/b?c"), app("com.a"), other("r/1")).Body)
	b := append(make([]byte, 0, 1024), text...)
	c := chain.New(site)
	deliver(t, c, api.Fetched{Body: b})
	same(t, "the document", string(b), text)
	same(t, "its spare room", b[:cap(b)][len(b):], make([]byte, cap(b)-len(b)))
	clear(b[:cap(b)])
	waits(t, c, "https://a/b?c")
	deliver(t, c, doc())
	tells(t, c, toldApp("com.a"), toldOther("r/1"))

	f := &api.Fault{Kind: api.ErrStatus, At: 7, Inner: api.ErrTime}
	c = chain.New(site)
	deliver(t, c, api.Fetched{Err: f, Body: b[:0]})
	same(t, "the error that was handed in", *f, api.Fault{Kind: api.ErrStatus, At: 7, Inner: api.ErrTime})
}

// P23.4: what is answered may be written over, its spare room, too.
func TestAnswersAreNew(t *testing.T) {
	c := chain.New(site)
	deliver(t, c, doc(in("https://a/"), app("com.a"), app("com.b")))
	asked := c.Asked()
	clear(asked[:cap(asked)])
	sameTexts(t, "Asked", c.Asked(), root, "https://a/")
	asked = append(c.Asked()[:1], "https://z/")
	waits(t, c, "https://a/")
	deliver(t, c, doc(web("http://w")))
	sameTexts(t, "what was answered", asked, root, "https://z/")

	want := []api.Statement{toldApp("com.a"), toldApp("com.b"), toldWeb("http://w")}
	got, again := c.Statements(), c.Statements()
	for i, s := range got {
		_ = append(s.Relations, "z/z")
		_ = append(s.Prints, api.Print{7})
		same(t, "behind statement "+strconv.Itoa(i), bare(got), bare(want))
	}
	for i, s := range got {
		clear(s.Relations[:cap(s.Relations)])
		clear(s.Prints[:cap(s.Prints)])
		same(t, "those behind statement "+strconv.Itoa(i), bare(got[i+1:]), bare(want[i+1:]))
	}
	clear(got[:cap(got)])
	same(t, "the other answer", bare(again), bare(want))
	same(t, "the next answer", bare(c.Statements()), bare(want))

	c = chain.New(site)
	deliver(t, c, doc(numbers(1, 11)...))
	c.Err().(*api.Fault).At = 9
	wrong(t, "Err", c.Err(), api.ErrMany, 0)
	c.Deliver(api.Fetched{}).(*api.Fault).At = 9
	wrong(t, "Deliver", c.Deliver(api.Fetched{}), api.ErrState, 0)
}

// What is done to one chain isn't seen in another.
func TestByItself(t *testing.T) {
	one, two := chain.New(site), chain.New(site)
	deliver(t, one, doc(in("https://a/"), app("com.a")))
	waits(t, two, root)
	deliver(t, two, api.Fetched{Err: api.ErrTime})
	waits(t, one, "https://a/")
	failed(t, two, api.ErrDoc, api.ErrTime)
	deliver(t, one, doc())
	tells(t, one, toldApp("com.a"))
	waits(t, chain.New(site), root)
}

// P1 and P2: all calls end, none panics, and a second run answers what the first one did.
func TestAnyArguments(t *testing.T) {
	outcomes := []api.Fetched{doc(in("https://a/"), in("https://b/")), doc(numbers(1, 7)...), {}, {Err: (*api.Fault)(nil)}, {Body: []byte(strings.Repeat("[", 1<<20))}, doc(numbers(1, 999)...), doc(slices.Repeat([]string{in(root)}, 1000)...), doc(slices.Repeat([]string{app("com.a")}, 1000)...)}
	hosts := []api.Host{site, {}, {Kind: -1 << 62, Text: "\xff"}, {Kind: api.HostV6, Text: strings.Repeat("[", 1<<16)}}
	run := func() []any {
		var all []any
		keep := func(answers ...any) { all = append(all, answers...) }
		for _, h := range hosts {
			for from := range outcomes {
				c := chain.New(h)
				keep(chain.Root(h))
				for _, f := range slices.Concat(outcomes[from:], outcomes[:from]) {
					next, ok := c.Next()
					keep(next, ok, c.Done(), c.Asked(), c.Statements(), c.Deliver(f), c.Err())
				}
			}
		}
		return all
	}
	same(t, "the second run", run(), run())
}
