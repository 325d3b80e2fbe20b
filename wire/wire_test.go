package wire_test

import (
	"errors"
	"math"
	"reflect"
	"slices"
	"strings"
	"testing"
	"unsafe"

	"waybill/api"
	"waybill/media"
	"waybill/wire"
)

func same(t *testing.T, what any, got, want any) {
	t.Helper()
	if !reflect.DeepEqual(got, want) {
		t.Errorf("%.300v: got %+v, want %+v", what, got, want)
	}
}

// told is an error as the chapters tell it: kind 0 is none.
type told struct {
	kind  api.Errno
	at    int
	inner error
}

// tells gives the error that an error is; of one that isn't a fault a kind below 0.
func tells(err error) told {
	if err == nil {
		return told{}
	}
	f, ok := err.(*api.Fault)
	if !ok || f == nil || !errors.Is(err, f.Kind) {
		return told{kind: -1}
	}
	return told{f.Kind, f.At, f.Inner}
}

const json = "application/json"

// name gives the host of a name.
func name(text string) api.Host { return api.Host{Kind: api.HostName, Text: text} }

// long gives a body of so many bytes.
func long(n int) []byte { return make([]byte, n) }

// P26.1: responses that are right.
func TestJudgeRight(t *testing.T) {
	for _, r := range []api.Response{
		{Status: 200, Type: json},
		{Status: 200, Type: "Application/JSON; Charset=\"UTF-8\"", Body: []byte("nonsense")},
		{Status: 200, Type: "application/pkcs7-mime"},
		{Status: 200, Type: " Application/B+JSON ; x=y ", Body: long(131072)},
		{ID: math.MaxUint64, Status: 200, Type: "application/x+json", Cache: "no-store", Body: long(131072)},
	} {
		same(t, r.Type, wire.Judge(true, r), error(nil))
		same(t, r.Type, wire.Judge(false, r), error(nil))
	}
	same(t, "no type, of Apple's", wire.Judge(true, api.Response{Status: 200, Body: long(131072)}), error(nil))
	same(t, "the longest one of Android's", wire.Judge(false, api.Response{Status: 200, Type: json, Body: long(1048576)}), error(nil))
}

// P26.1: each error at its edges.
func TestJudgeWrong(t *testing.T) {
	for _, apple := range []bool{true, false} {
		for status, want := range map[int]api.Errno{
			200: 0, 199: api.ErrStatus, 201: api.ErrStatus, 299: api.ErrStatus, 300: api.ErrRedirect, 301: api.ErrRedirect, 304: api.ErrRedirect, 399: api.ErrRedirect, 400: api.ErrStatus,
			0: api.ErrStatus, -200: api.ErrStatus, -300: api.ErrStatus, 404: api.ErrStatus, 500: api.ErrStatus, 2000: api.ErrStatus, math.MaxInt: api.ErrStatus, math.MinInt: api.ErrStatus,
		} {
			same(t, status, tells(wire.Judge(apple, api.Response{Status: status, Type: json})), told{kind: want})
			same(t, status, tells(wire.Judge(apple, api.Response{Status: status, Type: json, Timeout: true})), told{kind: api.ErrTime})
			same(t, status, tells(wire.Judge(apple, api.Response{Status: status, Type: json, Redirect: true})), told{kind: api.ErrRedirect})
		}
		for _, kind := range []string{"text/html", "text/json", "application/jsonp", "json", " ", ";", "application/json; charset=ascii", "application/json;", "application/json; a=1; A=2", strings.Repeat("a", 1001), "\xff"} {
			inner := media.Accept(kind)
			same(t, kind, inner != nil, true)
			same(t, kind, tells(wire.Judge(apple, api.Response{Status: 200, Type: kind})), told{api.ErrType, 0, inner})
		}
	}
	same(t, "no type, of Android's", tells(wire.Judge(false, api.Response{Status: 200})), told{api.ErrType, 0, media.Accept("")})
	same(t, "whether that came from its form", errors.Is(wire.Judge(false, api.Response{Status: 200}), api.ErrForm), true)
	same(t, "a byte more, of Apple's", tells(wire.Judge(true, api.Response{Status: 200, Type: json, Body: long(131073)})), told{kind: api.ErrLong})
	same(t, "the same, of Android's", wire.Judge(false, api.Response{Status: 200, Type: json, Body: long(131073)}), error(nil))
	same(t, "a byte more, of Android's", tells(wire.Judge(false, api.Response{Status: 200, Type: json, Body: long(1048577)})), told{kind: api.ErrLong})
}

// judged gives by the chapter's words what Judge answers.
func judged(apple bool, r api.Response) told {
	if r.Timeout {
		return told{kind: api.ErrTime}
	}
	if r.Redirect || r.Status/100 == 3 {
		return told{kind: api.ErrRedirect}
	}
	if r.Status != 200 {
		return told{kind: api.ErrStatus}
	}
	if inner := media.Accept(r.Type); inner != nil && !(apple && r.Type == "") {
		return told{api.ErrType, 0, inner}
	}
	if apple && len(r.Body) > 131072 || len(r.Body) > 1048576 {
		return told{kind: api.ErrLong}
	}
	return told{}
}

// P26.1: the order of all errors, of all responses of some parts.
func TestJudgeOrder(t *testing.T) {
	truths := []bool{false, true}
	most := long(1048577)
	for _, apple := range truths {
		for _, timeout := range truths {
			for _, redirect := range truths {
				for _, status := range []int{200, 299, 300, 399, 400} {
					for _, kind := range []string{json, "", "text/html"} {
						for _, size := range []int{0, 131072, 131073, 1048577} {
							r := api.Response{Status: status, Redirect: redirect, Timeout: timeout, Type: kind, Body: most[:size]}
							same(t, []any{apple, timeout, redirect, status, kind, size}, tells(wire.Judge(apple, r)), judged(apple, r))
						}
					}
				}
			}
		}
	}
}

// P26.2
func TestAppleURL(t *testing.T) {
	for want, h := range map[string]api.Host{
		"x.com":         name("x.com"),
		"xn--bcher-kva": name("xn--bcher-kva"),
		"127.0.0.1":     {Kind: api.HostV4, Text: "127.0.0.1"},
		"[::1]":         {Kind: api.HostV6, Text: "::1"},
		"":              {},
		"a b\xff":       {Kind: 9, Text: "a b\xff"},
	} {
		same(t, h, wire.AppleURL(h), "https://"+want+"/.well-known/apple-app-site-association")
	}
}

// ask asks for requests of some apps for some hosts at a tick, and gives their IDs.
func ask(b *wire.Book, now uint64, list ...api.Request) []uint64 {
	var ids []uint64
	for _, r := range list {
		ids = append(ids, b.Ask(r, now).ID)
	}
	return ids
}

// of gives the request of an app for a host.
func of(app, site string) api.Request {
	return api.Request{App: app, Apple: len(app)%2 == 0, Host: name(site), URL: "https://" + site + "/" + app}
}

// idsOf gives the IDs of some requests.
func idsOf(list []api.Request) []uint64 {
	var ids []uint64
	for _, r := range list {
		ids = append(ids, r.ID)
	}
	return ids
}

// P26.3: numbers go on, whatever comes of the requests.
func TestAsk(t *testing.T) {
	b := wire.New()
	same(t, "Len", b.Len(), 0)
	for i, r := range []api.Request{of("p", "a"), of("p", "a"), {}, {ID: 77, App: "\xff", Apple: true, Host: api.Host{Kind: -1, Text: "\x00"}, URL: "no URL"}, {ID: 2, URL: strings.Repeat("u", 1<<16)}} {
		want := r
		want.ID = uint64(i + 1)
		same(t, "Ask", b.Ask(r, 7), want)
		same(t, "Len", b.Len(), i+1)
	}
	for _, id := range []uint64{5, 1} {
		_, err := b.Take(id)
		same(t, "Take", err, error(nil))
	}
	same(t, "the next ones", ask(b, 7, of("p", "a"), of("q", "b")), []uint64{6, 7})
	same(t, "Late", idsOf(b.Late(127)), []uint64{2, 3, 4, 6, 7})
	same(t, "the next one", ask(b, 127, of("p", "a")), []uint64{8})
	same(t, "Drop", b.Drop("p", name("a")), 1)
	same(t, "the next one", ask(b, 127, of("p", "a")), []uint64{9})
	same(t, "Len", b.Len(), 1)
}

// P26.3
func TestTake(t *testing.T) {
	b := wire.New()
	none := func(ids ...uint64) {
		t.Helper()
		for _, id := range ids {
			r, err := b.Take(id)
			same(t, id, []any{r, tells(err)}, []any{api.Request{}, told{kind: api.ErrName}})
		}
	}
	none(0, 1, 2, math.MaxUint64)
	list := []api.Request{of("p", "a"), of("qq", "b"), of("p", "a"), of("r", "c")}
	ask(b, 9, list...)
	none(0, 5, 1<<32+1, math.MaxUint64)
	same(t, "Len", b.Len(), 4)
	for i, id := range []uint64{3, 1, 4, 2} {
		want := list[id-1]
		want.ID = id
		r, err := b.Take(id)
		same(t, id, []any{r, err}, []any{want, nil})
		same(t, "Len", b.Len(), 3-i)
		none(id)
	}
	none(0, 1, 2, 3, 4, 5)
}

// P26.3: from 120 ticks on a request is late.
func TestLate(t *testing.T) {
	for _, since := range []uint64{0, 1, 119, 120, 1000, 1 << 40, math.MaxUint64 - 120} {
		b := wire.New()
		want := b.Ask(of("p", "a"), since)
		for _, now := range []uint64{since, since + 1, since + 119} {
			same(t, now, len(b.Late(now)), 0)
			same(t, "Len", b.Len(), 1)
		}
		same(t, since, b.Late(since+120), []api.Request{want})
		same(t, "Len", b.Len(), 0)
		same(t, "Late again", len(b.Late(since+120)), 0)
		_, err := b.Take(1)
		same(t, "Take of a late one", tells(err), told{kind: api.ErrName})
	}
	b := wire.New()
	for _, now := range []uint64{3, 3, 4, 10, math.MaxUint64 - 120, math.MaxUint64 - 119, math.MaxUint64} {
		b.Ask(of("p", "a"), now)
	}
	for _, c := range []struct {
		now uint64
		ids []uint64
	}{{122, nil}, {123, []uint64{1, 2}}, {123, nil}, {130, []uint64{3, 4}}, {math.MaxUint64 - 1, nil}, {math.MaxUint64, []uint64{5}}, {math.MaxUint64, nil}} {
		same(t, c.now, idsOf(b.Late(c.now)), c.ids)
	}
	same(t, "Len", b.Len(), 2)
	// Those ahead and behind a late one that are taken out don't matter.
	b = wire.New()
	ask(b, 0, of("p", "a"), of("q", "b"), of("p", "c"), of("q", "d"))
	b.Take(3)
	b.Drop("p", name("a"))
	same(t, "Late", idsOf(b.Late(5000)), []uint64{2, 4})
}

// P26.3: just those of the app and of the host.
func TestDrop(t *testing.T) {
	b := wire.New()
	same(t, "Drop of none", b.Drop("p", name("a")), 0)
	v4 := of("p", "1.2.3.4")
	v4.Host.Kind = api.HostV4
	ask(b, 0, of("p", "a"), of("p", "b"), of("q", "a"), of("p", "a"), v4, of("", ""), of("p", "A"), of("p", "a"))
	for _, x := range []api.Request{of("P", "a"), of("p", "ab"), of("p", ""), of("", "a"), of("p", "1.2.3.4"), of("a", "p"), {App: "p", Host: api.Host{Kind: api.HostV6, Text: "a"}}} {
		same(t, x, b.Drop(x.App, x.Host), 0)
	}
	same(t, "Len", b.Len(), 8)
	same(t, "three", b.Drop("p", name("a")), 3)
	same(t, "again", b.Drop("p", name("a")), 0)
	same(t, "of an address", b.Drop("p", v4.Host), 1)
	same(t, "of nothing", b.Drop("", name("")), 1)
	_, err := b.Take(1)
	same(t, "Take of what was dropped", tells(err), told{kind: api.ErrName})
	same(t, "Late", idsOf(b.Late(120)), []uint64{2, 3, 7})
}

// step is something that is done to a Book.
type step struct {
	what string
	now  uint64
	id   uint64
	r    api.Request
}

// model is a Book by the chapter's words.
type model struct {
	asked uint64
	waits map[uint64]api.Request
	since map[uint64]uint64
}

func (m *model) remove(gone func(id uint64) bool) (list []api.Request) {
	for id := uint64(1); id <= m.asked; id++ {
		if r, ok := m.waits[id]; ok && gone(id) {
			list = append(list, r)
			delete(m.waits, id)
		}
	}
	return list
}

// do gives what a step answers.
func (m *model) do(s step) []any {
	switch s.what {
	case "ask":
		m.asked++
		s.r.ID = m.asked
		m.waits[m.asked], m.since[m.asked] = s.r, s.now
		return []any{s.r}
	case "take":
		if list := m.remove(func(id uint64) bool { return id == s.id }); list != nil {
			return []any{list[0], told{}}
		}
		return []any{api.Request{}, told{kind: api.ErrName}}
	case "late":
		return []any{idsOf(m.remove(func(id uint64) bool { return m.since[id]+120 <= s.now }))}
	default:
		return []any{len(m.remove(func(id uint64) bool { return m.waits[id].App == s.r.App && m.waits[id].Host == s.r.Host }))}
	}
}

// do gives what a step to a Book answers.
func do(b *wire.Book, s step) []any {
	switch s.what {
	case "ask":
		return []any{b.Ask(s.r, s.now)}
	case "take":
		r, err := b.Take(s.id)
		return []any{r, tells(err)}
	case "late":
		return []any{idsOf(b.Late(s.now))}
	default:
		return []any{b.Drop(s.r.App, s.r.Host)}
	}
}

// P26.3: all rows of six of some steps, against the chapter's words.
func TestBookOfAll(t *testing.T) {
	steps := []step{{what: "ask", r: of("p", "a")}, {what: "ask", r: of("q", "a")}, {what: "take", id: 1}, {what: "take", id: 2}, {what: "late"}, {what: "drop", r: of("p", "a")}}
	const most = 6
	rows := 1
	for range most {
		rows *= len(steps)
	}
	for row := range rows {
		b, m := wire.New(), &model{waits: map[uint64]api.Request{}, since: map[uint64]uint64{}}
		for at, rest := 0, row; at < most; at, rest = at+1, rest/len(steps) {
			s := steps[rest%len(steps)]
			// From the first step to the fourth one 120 ticks go by.
			s.now = 40 * uint64(at)
			same(t, []any{"row", row, "step", at}, do(b, s), m.do(s))
			same(t, []any{"row", row, "Len behind step", at}, b.Len(), len(m.waits))
		}
		if t.Failed() {
			return
		}
	}
}

func share(a, b string) bool {
	return len(a) > 0 && len(b) > 0 && unsafe.StringData(a) == unsafe.StringData(b)
}

// shared tells whether two requests have a text in common memory.
func shared(a, b api.Request) bool {
	return share(a.App, b.App) || share(a.Host.Text, b.Host.Text) || share(a.URL, b.URL)
}

// P26.4: what is handed in stays.
func TestHandedInStays(t *testing.T) {
	whole := []byte("a document, and more")
	ahead := slices.Clone(whole)
	for _, apple := range []bool{true, false} {
		r := api.Response{Status: 200, Type: json, Body: whole[:10]}
		same(t, "Judge", wire.Judge(apple, r), error(nil))
		same(t, "the body and what is behind it", whole, ahead)
	}
}

// P26.4: what is answered is new memory.
func TestAnswersAreNew(t *testing.T) {
	b := wire.New()
	r := of("p", "a")
	asked := b.Ask(r, 0)
	taken, err := b.Take(1)
	same(t, "Take", err, error(nil))
	same(t, "whether texts are others'", []bool{shared(r, asked), shared(r, taken), shared(asked, taken)}, make([]bool, 3))

	asked = b.Ask(r, 0)
	b.Ask(r, 60)
	late := b.Late(120)
	same(t, "whether texts are others'", shared(r, late[0]) || shared(asked, late[0]), false)
	clear(late[:cap(late)])
	same(t, "Late", idsOf(b.Late(180)), []uint64{3})

	ask(b, 200, r, r, r)
	late = b.Late(320)
	ask(b, 320, r, r)
	clear(late[:cap(late)])
	taken, err = b.Take(7)
	same(t, "Take", []any{taken.App, err}, []any{"p", nil})
	same(t, "Late", idsOf(b.Late(440)), []uint64{8})

	h := name("a")
	same(t, "whether its text is the URL's", share(wire.AppleURL(h), wire.AppleURL(h)), false)
	_, err = b.Take(1)
	err.(*api.Fault).At = 9
	_, err = b.Take(1)
	same(t, "Take", tells(err), told{kind: api.ErrName})
	wire.Judge(true, api.Response{}).(*api.Fault).At = 9
	same(t, "Judge", tells(wire.Judge(true, api.Response{})), told{kind: api.ErrStatus})
}

// What is done to one book isn't seen in another.
func TestByItself(t *testing.T) {
	one, two := wire.New(), wire.New()
	ask(one, 0, of("p", "a"), of("p", "b"))
	same(t, "the other book's first ID", ask(two, 0, of("p", "a")), []uint64{1})
	same(t, "Drop", two.Drop("p", name("a")), 1)
	same(t, "Late", idsOf(one.Late(120)), []uint64{1, 2})
	same(t, "Len of a new one", wire.New().Len(), 0)
}

// P1 and P2: all calls end, none panics, and a second run answers what the first one did.
func TestAnyArguments(t *testing.T) {
	texts := []string{"", "\xff", "x", "application/json;", strings.Repeat("a", 1<<16)}
	numbers := []uint64{0, 1, 5, 119, 120, 121, math.MaxInt64, math.MaxUint64 - 120, math.MaxUint64, 3}
	run := func() []any {
		var all []any
		keep := func(answers ...any) { all = append(all, answers...) }
		b := wire.New()
		for i, s := range texts {
			for j, n := range numbers {
				h := api.Host{Kind: j - 3, Text: s}
				keep(wire.AppleURL(h), b.Ask(api.Request{ID: n, App: s, Apple: j%2 == 0, Host: h, URL: texts[j%len(texts)]}, n), b.Len())
				keep(tells(wire.Judge(j%2 == 0, api.Response{ID: n, Status: int(n), Type: s})), tells(wire.Judge(i%2 == 0, api.Response{Status: 200, Type: s})))
			}
		}
		for i, n := range numbers {
			r, err := b.Take(n)
			keep(r, tells(err), b.Late(n), b.Len())
			for _, s := range texts {
				keep(b.Drop(s, api.Host{Kind: i - 3, Text: s}), b.Len())
			}
		}
		return all
	}
	if !reflect.DeepEqual(run(), run()) {
		t.Error("a second run answers something else")
	}
}

// P26.1: the chapter's example.
func TestExample(t *testing.T) {
	for _, apple := range []bool{true, false} {
		same(t, "text/html", tells(wire.Judge(apple, api.Response{Status: 200, Type: "text/html"})).kind, api.ErrType)
		same(t, "404", tells(wire.Judge(apple, api.Response{Status: 404})).kind, api.ErrStatus)
	}
}
