package report_test

import (
	"bytes"
	"errors"
	"math"
	"reflect"
	"runtime"
	"slices"
	"strings"
	"testing"
	"unsafe"

	"waybill/api"
	"waybill/report"
)

// lent gives a text that can be written over, and what does that.
func lent(s string) (text string, spoil func()) {
	b := []byte(s + "?")
	return unsafe.String(&b[0], len(s)), func() {
		for i := range b {
			b[i] = '?'
		}
	}
}

// roomy gives bytes, behind which there is room with something in it.
func roomy(s string) []byte {
	b := append([]byte(s), "spare room"...)
	return b[:len(s)]
}

// P30.6: what is handed in isn't changed, its spare room neither, and may be written over behind the call.
func TestHandedInBytes(t *testing.T) {
	lines := ""
	for line, want := range canonical() {
		b := roomy(line)
		got, err := report.Read(b)
		same(t, line, err, error(nil))
		same(t, line, string(b[:cap(b)][:len(line)+len("spare room")]), line+"spare room")
		for i := range b {
			b[i] = '?'
		}
		same(t, line, got, want)
		lines += line + "\n"
	}
	b := roomy(lines + "{\n")
	got := report.Run(b)
	same(t, "Run", string(b[:len(lines)+2+len("spare room")]), lines+"{\nspare room")
	for i := range b {
		b[i] = '?'
	}
	same(t, "Run", got, report.Run([]byte(lines+"{\n")))
}

// P30.6: texts that are handed in may be written over, too.
func TestHandedInTexts(t *testing.T) {
	for _, s := range []string{"a.com:80", "[::1]:80", "*.b.com", "*", "x"} {
		text, spoil := lent(s)
		got, _ := report.Host(text)
		spoil()
		want, _ := report.Host(strings.Clone(s))
		same(t, s, got, want)
		pattern, spoil := lent(want.Pattern.Name)
		want.Pattern.Name = pattern
		told := report.HostText(want)
		again := strings.Clone(told)
		spoil()
		same(t, s, told, again)
	}
	for what := range withText("") {
		text, spoil := lent(`some "text"`)
		line, err := report.Write(withText(text)[what])
		again := strings.Clone(line)
		spoil()
		same(t, what, []any{line, err, strings.Contains(line, `some \"text\"`)}, []any{again, nil, true})
	}
	app, spoilApp := lent("app")
	url, spoilURL := lent("url")
	line := report.Outcome(api.Outcome{Answer: api.Answer{Kind: api.OpenApp, Apps: []string{app}}, Requests: []api.Request{{App: app, URL: url}}})
	spoilApp()
	spoilURL()
	same(t, "Outcome", line, `{"answer":"open:? app","requests":[{"app":"app","id":0,"url":"url"}]}`)
}

// P30.6: events and outcomes stay as they are, the room behind their lists, too.
func TestHandedInLists(t *testing.T) {
	for _, m := range []api.Manifest{wholeApple(), wholeAndroid()} {
		rooms(reflect.ValueOf(&m).Elem(), func(list reflect.Value) {
			spare := reflect.AppendSlice(list, list)
			list.Set(spare.Slice(0, list.Len()))
		})
		before := whole(m)
		_, err := report.Write(installed(m))
		same(t, m, err, error(nil))
		same(t, m, whole(m), before)
	}
	requests := []api.Request{request(2, "b", "u"), request(1, "a", "v"), {}, request(3, "", "")}
	apps := []string{"b", "a", "c"}
	report.Outcome(api.Outcome{Answer: api.Answer{Kind: api.Chooser, Apps: apps[:2]}, Requests: requests[:3]})
	same(t, "Outcome", requests, []api.Request{request(2, "b", "u"), request(1, "a", "v"), {}, request(3, "", "")})
	same(t, "Outcome", apps, []string{"b", "a", "c"})
	body := roomy("body")
	report.Write(delivered(api.Response{Body: body}))
	same(t, "Write", string(body[:4+len("spare room")]), "bodyspare room")
}

// rooms tells of each list in a value, those in lists, too.
func rooms(v reflect.Value, tell func(list reflect.Value)) {
	switch v.Kind() {
	case reflect.Slice:
		tell(v)
		for i := range v.Len() {
			rooms(v.Index(i), tell)
		}
	case reflect.Struct:
		for i := range v.NumField() {
			rooms(v.Field(i), tell)
		}
	}
}

// whole gives what stands in all lists of a manifest and behind these.
func whole(m api.Manifest) []any {
	var all []any
	rooms(reflect.ValueOf(&m).Elem(), func(list reflect.Value) {
		list = list.Slice(0, list.Cap())
		for i := range list.Len() {
			all = append(all, list.Index(i).Interface())
		}
	})
	return all
}

// P30.6: lists of answers share no room with one another.
func TestAnswersAreNew(t *testing.T) {
	var froms, tos []uintptr
	var kept []api.Event
	for line := range canonical() {
		for range 2 {
			e, _ := report.Read([]byte(line))
			kept = append(kept, e)
			rooms(reflect.ValueOf(&e).Elem(), func(list reflect.Value) {
				size := uintptr(list.Cap()) * list.Type().Elem().Size()
				if size == 0 {
					return
				}
				from := list.Pointer()
				for i := range froms {
					same(t, []any{line, "shares room"}, from < tos[i] && froms[i] < from+size, false)
				}
				froms, tos = append(froms, from), append(tos, from+size)
			})
		}
	}
	// Memory that is free again may be given out once more.
	runtime.KeepAlive(kept)
	text := []byte(open("a") + "\n" + open("b"))
	got, other := report.Run(text), report.Run(text)
	clear(got[:cap(got)])
	same(t, "Run", other, []string{`{"answer":"reject:url"}`, `{"answer":"reject:url"}`})
	same(t, "Run", report.Run(text), other)
}

// changed gives texts that a text becomes by small changes.
func changed(c *chance, s string) string {
	b := []byte(s)
	for range 1 + c.below(3) {
		at := c.below(len(b) + 1)
		const among = "\"\\{}[]:,.-019eEtfnu*%a \n\x00\x80\xc3\xff"
		switch c.below(3) {
		case 0:
			b = slices.Insert(b, at, among[c.below(len(among))])
		case 1:
			b = slices.Delete(b, at, min(at+1+c.below(3), len(b)))
		default:
			if at < len(b) {
				b[at] = among[c.below(len(among))]
			}
		}
	}
	return string(b)
}

// checked asks of Read what it must tell of any line, and gives whether the line is right.
func checked(t *testing.T, line string) bool {
	t.Helper()
	e, err := report.Read([]byte(line))
	again, other := report.Read([]byte(line))
	same(t, line, []any{e, err}, []any{again, other})
	if err != nil {
		same(t, line, []any{errors.Is(err, api.ErrDoc), e}, []any{true, api.Event{}})
		return false
	}
	text, err := report.Write(e)
	same(t, line, err, error(nil))
	reads(t, text, e)
	return true
}

// P1, P2, P30.2 and P30.3: of lines that were changed a little.
func TestChangedLines(t *testing.T) {
	c := chance(4)
	right := 0
	var lines []string
	for line := range otherForms() {
		lines = append(lines, line)
	}
	for line := range canonical() {
		lines = append(lines, line)
	}
	slices.Sort(lines)
	for range 200 {
		for _, line := range lines {
			if checked(t, changed(&c, line)) {
				right++
			}
		}
		if t.Failed() {
			return
		}
	}
	same(t, []any{"whether many were right", right}, right > 200, true)
}

// P1 and P30.1: of texts that were changed a little.
func TestChangedHosts(t *testing.T) {
	c := chance(5)
	right := 0
	for range 1000 {
		for _, s := range []string{"a.com:8443", "*.b.com", "[::1]:80", "[1:2::3]", "*:65535", "1.2.3.4:1", ":", ""} {
			s = changed(&c, s)
			h, err := report.Host(s)
			if err != nil {
				same(t, s, []any{errors.Is(err, api.ErrPort) || errors.Is(err, api.ErrHost), h}, []any{true, api.FilterHost{}})
				continue
			}
			right++
			again, err := report.Host(report.HostText(h))
			same(t, s, []any{again, err}, []any{h, nil})
		}
	}
	same(t, []any{"whether many were right", right}, right > 1000, true)
}

// P1: any arguments are answered.
func TestAnyArguments(t *testing.T) {
	for _, b := range [][]byte{nil, {}, {0}, {0xff}, bytes.Repeat([]byte("["), 1<<21), bytes.Repeat([]byte("\n"), 1<<20), bytes.Repeat([]byte(`{"a":`), 1<<18)} {
		report.Run(b)
		report.Host(string(b))
		_, err := report.Read(b)
		same(t, "Read", tells(err), told{kind: api.ErrDoc})
	}
	same(t, "Run", len(report.Run(nil)), 0)
	bad := []int{math.MinInt, -1, 0, 1, 2, 3, 4, 5, 6, 7, math.MaxInt}
	for _, n := range bad {
		report.HostText(api.FilterHost{Port: n})
		e := among(api.Event{Kind: n, ID: "\xff"})
		e.Manifest = api.Manifest{Filters: []api.Filter{{Hosts: []api.FilterHost{{Port: n}}, Paths: []api.FilterPath{{Kind: n}}}}}
		report.Write(e)
		for _, k := range bad {
			o := api.Outcome{Err: api.Fail(api.Errno(n), k), Answer: api.Answer{Kind: n, Reason: k, Apps: make([]string, 3)}}
			parsed(t, report.Outcome(o))
		}
	}
}

// P2: two runs of the same calls give the same answers.
func TestTwice(t *testing.T) {
	c := chance(6)
	var lines []string
	for range 300 {
		lines = append(lines, c.line(request(uint64(c.below(40)), "a", "")))
	}
	text := []byte(strings.Join(lines, "\n"))
	want := report.Run(text)
	for range 5 {
		same(t, "Run", report.Run(text), want)
	}
	for line, e := range canonical() {
		for range 5 {
			got, err := report.Write(e)
			same(t, line, []any{got, err}, []any{line, nil})
		}
	}
}
