package report_test

import (
	"errors"
	"math"
	"slices"
	"strconv"
	"strings"
	"testing"

	"waybill/api"
	"waybill/dispatch"
	"waybill/ident"
	"waybill/pick"
	"waybill/report"
	"waybill/scan"
)

// around is an error of another type that came from one.
type around struct{ inner error }

func (a around) Error() string { return "around" }
func (a around) Unwrap() error { return a.inner }

// panics is an error whose methods can't be called.
type panics struct{}

func (p *panics) Error() string { panic("Error") }
func (p *panics) Unwrap() error { panic("Unwrap") }
func (p *panics) As(any) bool   { panic("As") }

// P30.4: an error's number is that of the outermost fault.
func TestOutcomeErrors(t *testing.T) {
	fault := api.Fail(api.ErrName, 7)
	for _, c := range []struct {
		err  error
		want string
	}{
		{fault, "30"},
		{api.Fail(api.ErrArg, -1), "1"},
		{api.Wrap(api.ErrHost, 0, api.Fail(api.ErrUTF, 3)), "22"},
		{api.Wrap(api.ErrHost, 0, errors.New("x")), "22"},
		{api.Wrap(7, 0, api.ErrKind), "7"},
		{api.Fail(math.MaxInt, 0), "9223372036854775807"},
		{api.Fail(0, 0), "0"},
		{api.Fail(-1, 0), "0"},
		{api.Fail(math.MinInt, 0), "0"},
		{api.Wrap(-1, 0, fault), "0"},
		{api.Wrap(0, 0, fault), "0"},
		{around{fault}, "30"},
		{around{around{api.Wrap(api.ErrDoc, 0, fault)}}, "33"},
		{errors.Join(errors.New("x"), fault, api.Fail(api.ErrHost, 0)), "30"},
		{errors.New("x"), "0"},
		{api.ErrName, "0"},
		{around{nil}, "0"},
		{around{errors.New("x")}, "0"},
		{(*api.Fault)(nil), "0"},
		{around{(*api.Fault)(nil)}, "0"},
		{&panics{}, "0"},
		{(*panics)(nil), "0"},
		{around{&panics{}}, "0"},
		{&api.Fault{Kind: api.ErrForm, Inner: &panics{}}, "11"},
	} {
		same(t, c.want, report.Outcome(api.Outcome{Err: c.err}), `{"error":`+c.want+`}`)
	}
}

// request gives one that is asked for.
func request(id uint64, app, url string) api.Request {
	return api.Request{ID: id, App: app, Apple: true, Host: api.Host{Kind: api.HostName, Text: "x.com"}, URL: url}
}

// P30.4: what is there of an outcome, and nothing else.
func TestOutcome(t *testing.T) {
	one, two := request(1, "a", "https://x.com/"), request(math.MaxUint64, "b \"", "")
	fault := api.Fail(api.ErrName, 0)
	open := api.Answer{Kind: api.OpenApp, Apps: []string{"a"}, Reason: api.WhyOne}
	for _, c := range []struct {
		o    api.Outcome
		want string
	}{
		{api.Outcome{}, `{}`},
		{api.Outcome{Requests: []api.Request{}, Answer: api.Answer{Apps: []string{}}}, `{}`},
		{api.Outcome{Answer: api.Answer{Apps: []string{"a"}, Reason: api.WhyOne}}, `{}`},
		{api.Outcome{Answer: open}, `{"answer":"open:one a"}`},
		{api.Outcome{Answer: api.Answer{Kind: api.Chooser, Apps: []string{"a", "\n\"é\""}, Reason: api.WhySeveral}}, `{"answer":"choose:several a \n\"é\""}`},
		{api.Outcome{Answer: api.Answer{Kind: api.Browser, Reason: api.WhyUnknown}}, `{"answer":"browser:unknown"}`},
		{api.Outcome{Answer: api.Answer{Kind: api.Reject}}, `{"answer":"reject:?"}`},
		{api.Outcome{Answer: api.Answer{Kind: -1, Apps: []string{""}, Reason: api.WhyURL}}, `{"answer":"?:url "}`},
		{api.Outcome{Answer: api.Answer{Kind: math.MaxInt, Reason: math.MinInt}}, `{"answer":"?:?"}`},
		{api.Outcome{Requests: []api.Request{one}}, `{"requests":[{"app":"a","id":1,"url":"https://x.com/"}]}`},
		{api.Outcome{Requests: []api.Request{two, {}, one, one}}, `{"requests":[{"app":"b \"","id":18446744073709551615,"url":""},{"app":"","id":0,"url":""},{"app":"a","id":1,"url":"https://x.com/"},{"app":"a","id":1,"url":"https://x.com/"}]}`},
		{api.Outcome{Err: fault, Requests: []api.Request{one}}, `{"error":30,"requests":[{"app":"a","id":1,"url":"https://x.com/"}]}`},
		{api.Outcome{Err: fault, Answer: open, Requests: []api.Request{{ID: 7}}}, `{"answer":"open:one a","error":30,"requests":[{"app":"","id":7,"url":""}]}`},
	} {
		got := report.Outcome(c.o)
		same(t, c.o, got, c.want)
		parsed(t, got)
	}
}

// P30.4: a member whose text isn't characters' bytes isn't there, all others are.
func TestOutcomeTexts(t *testing.T) {
	for _, s := range wrongTexts {
		o := api.Outcome{Err: api.Fail(api.ErrName, 0), Requests: []api.Request{request(1, s, "u"), request(2, "a", s), request(3, s, s), request(4, "a", "u")}}
		o.Answer = api.Answer{Kind: api.Chooser, Apps: []string{"a", s, "b"}, Reason: api.WhySeveral}
		got := report.Outcome(o)
		same(t, s, got, `{"error":30,"requests":[{"id":1,"url":"u"},{"app":"a","id":2},{"id":3},{"app":"a","id":4,"url":"u"}]}`)
		o = api.Outcome{Answer: api.Answer{Kind: api.OpenApp, Apps: []string{s}}, Requests: []api.Request{{App: s, URL: s}}}
		same(t, s, report.Outcome(o), `{"requests":[{"id":0}]}`)
		same(t, s, report.Outcome(api.Outcome{Answer: o.Answer}), `{}`)
	}
	for _, s := range rightTexts {
		q, _ := scan.Quote(s)
		o := api.Outcome{Answer: api.Answer{Kind: api.OpenApp, Apps: []string{s}, Reason: api.WhyOne}, Requests: []api.Request{request(1, s, s)}}
		got := report.Outcome(o)
		same(t, s, got, `{"answer":"open:one `+q[1:]+`,"requests":[{"app":`+q+`,"id":1,"url":`+q+`}]}`)
		parsed(t, got)
	}
}

// runs asks for the lines of what comes of lines, each of which stands ahead of its own.
func runs(t *testing.T, what string, rows ...[2]string) {
	t.Helper()
	var lines, want []string
	for _, row := range rows {
		lines, want = append(lines, row[0]), append(want, row[1])
	}
	got := report.Run([]byte(strings.Join(lines, "\n")))
	for i := range min(len(got), len(want)) {
		same(t, []any{what, i, lines[i]}, got[i], want[i])
	}
	same(t, what, len(got), len(want))
}

// The lines of some apps and events.
func appleApp(id, domains string) string {
	return install(`"id":"` + id + `","apple":{"app":"` + team + "." + id + `","domains":[` + domains + `]}`)
}

func androidApp(id, hosts string) string {
	return install(`"id":"` + id + `","android":{"package":"com.` + id + `","prints":["` + textA + `"],"filters":[{` +
		`"actions":["` + api.ActionView + `"],"categories":["` + api.CategoryDefault + `","` + api.CategoryBrowsable + `"],` +
		`"schemes":["https"],"hosts":[` + hosts + `],"autoVerify":true}]}`)
}

func open(s string) string { return `{"open":"` + s + `"}` }

// right gives the line of a document that came.
func right(id, body string) string {
	q, _ := scan.Quote(body)
	return deliver(`"id":` + id + `,"status":200,"type":"application/json","body":` + q)
}

// speaks and grants are documents that speak for the apps of those lines.
func speaks(id string, paths string) string {
	return `{"applinks":{"details":[{"appID":"` + team + "." + id + `","paths":[` + paths + `]}]}}`
}

func grants(id string) string {
	return `{"relation":["` + api.HandleURLs + `"],"target":{"namespace":"android_app","package_name":"com.` + id + `","sha256_cert_fingerprints":["` + ident.PrintText(printA) + `"]}}`
}

// asked gives the line of one request, of Apple's or Android's for x.com, or of another URL.
func asked(app, id, url string) string {
	switch url {
	case "apple":
		url = "https://x.com/.well-known/apple-app-site-association"
	case "android":
		url = "https://x.com/.well-known/assetlinks.json"
	}
	return `{"requests":[{"app":"` + app + `","id":` + id + `,"url":"` + url + `"}]}`
}

// P30.5: the chapter's example, and the ten of the whole.
func TestExamples(t *testing.T) {
	const nothing = `{}`
	opened := `{"answer":"open:one a"}`
	ahead := [][2]string{
		{appleApp("a", `"x.com"`), asked("a", "1", "apple")},
		{open("https://x.com/"), `{"answer":"browser:unknown"}`},
	}
	verified := append(slices.Clip(ahead), [][2]string{
		{right("1", speaks("a", `"NOT /no","*"`)), nothing},
		{open("https://x.com/a"), opened},
		{open("https://x.com/no"), `{"answer":"browser:rules"}`},
		{open("HTTPS://X.com.:443/%61"), opened},
		{open("https://u@x.com/"), `{"answer":"reject:user"}`},
		{open("https://x.com:99999/"), `{"answer":"reject:url"}`},
		{open("https://x..com/"), `{"answer":"reject:host"}`},
		{open("app:x"), `{"answer":"reject:nobody"}`},
	}...)
	runs(t, "the chapter's", [2]string{open("https://x.com/"), `{"answer":"browser:nobody"}`})
	runs(t, "1, 2, 6 and 7", verified...)
	runs(t, "3", append(slices.Clip(ahead), [][2]string{
		{deliver(`"id":1,"status":200,"redirect":true`), nothing},
		{`{"tick":59}`, nothing},
		{`{"tick":1}`, asked("a", "2", "apple")},
		{deliver(`"id":2,"status":404`), nothing},
		{`{"tick":119}`, nothing},
		{`{"tick":1}`, asked("a", "3", "apple")},
		{deliver(`"id":3,"timeout":true`), nothing},
		{`{"tick":240}`, asked("a", "4", "apple")},
		{`{"tick":120}`, nothing},
		{right("4", speaks("a", `"*"`)), `{"error":30}`},
	}...)...)
	both := append(slices.Clip(verified), [][2]string{
		{androidApp("b", `"X.com"`), asked("b", "2", "android")},
		{right("2", "["+grants("b")+"]"), nothing},
		{open("https://x.com/a"), `{"answer":"choose:several a b"}`},
		{toggle(`"app":"b","host":"X.COM"`), nothing},
		{open("https://x.com/a"), opened},
		{toggle(`"app":"b","host":"x.com","on":true`), nothing},
		{open("https://x.com/a"), `{"answer":"choose:several a b"}`},
		{toggle(`"app":"b","host":"["`), `{"error":22}`},
		{toggle(`"app":"c"`), `{"error":30}`},
	}...)
	runs(t, "4 and 5", both...)
	runs(t, "8", [][2]string{
		{install(`"id":"c","apple":{"app":"ABCDE12345.c","schemes":["app"]}`), nothing},
		{open("app:x"), `{"answer":"open:one c"}`},
		{install(`"id":"d","apple":{"app":"ABCDE12345.d","schemes":["b","app"]}`), nothing},
		{open("APP:x"), `{"answer":"choose:several c d"}`},
		{install(`"id":"d","apple":{"app":"ABCDE12345.d"}`), `{"error":31}`},
	}...)
	runs(t, "9", chained("https://x.com/.well-known/assetlinks.json", "https://h/a", "https://h/b", "https://h/a")...)
	runs(t, "10", append(slices.Clip(both), [][2]string{
		{`{"uninstall":"a"}`, nothing},
		{appleApp("a", `"x.com"`), asked("a", "3", "apple")},
		{open("https://x.com/a"), `{"answer":"open:one b"}`},
		{`{"uninstall":"b"}`, nothing},
		{open("https://x.com/a"), `{"answer":"browser:unknown"}`},
		{`{"uninstall":"b"}`, `{"error":30}`},
	}...)...)
}

// chained gives the rows of documents that include one another, and themselves, at last one that speaks for the app.
func chained(sites ...string) [][2]string {
	rows := [][2]string{{androidApp("a", `"x.com"`), asked("a", "1", "android")}}
	rows = append(rows,
		[2]string{right("1", `[{"include":"`+sites[0]+`"},{"include":"`+sites[1]+`"}]`), asked("a", "2", sites[1])},
		[2]string{right("2", `[{"include":"`+sites[3]+`"},{"include":"`+sites[2]+`"}]`), asked("a", "3", sites[2])},
		[2]string{open("https://x.com/"), `{"answer":"browser:unknown"}`},
		[2]string{right("3", `[{"include":"`+sites[0]+`"},`+grants("a")+`]`), `{}`},
		[2]string{open("https://x.com/"), `{"answer":"open:one a"}`},
	)
	// Ten inclusions more, and one that is too many.
	rows = append(rows, [2]string{`{"uninstall":"a"}`, `{}`}, [2]string{androidApp("a", `"x.com"`), asked("a", "4", "android")})
	at, site := 4, "https://h/"
	for range 10 {
		site += "x"
		rows = append(rows, [2]string{right(strconv.Itoa(at), `[`+grants("a")+`,{"include":"`+site+`"}]`), asked("a", strconv.Itoa(at+1), site)})
		at++
	}
	return append(rows,
		[2]string{right(strconv.Itoa(at), `[{"include":"https://h/11"}]`), `{}`},
		[2]string{open("https://x.com/"), `{"answer":"browser:unknown"}`},
	)
}

// P30.5: lines are what stands between LFs, and empty ones aren't looked at; of all others there is one line each.
func TestRunLines(t *testing.T) {
	const tick, wrong = `{"tick":1}`, `{"error":33}`
	for text, want := range map[string][]string{
		"":                                 nil,
		"\n":                               nil,
		"\n\n\n":                           nil,
		tick:                               {"{}"},
		tick + "\n":                        {"{}"},
		"\n\n" + tick + "\n\n\n" + tick:    {"{}", "{}"},
		tick + "\r\n" + tick + "\r\n":      {"{}", "{}"},
		"\r\n" + tick:                      {wrong, "{}"},
		" \n\t\n" + tick:                   {wrong, wrong, "{}"},
		tick + "\r" + tick:                 {wrong},
		tick + tick:                        {wrong},
		"{\"tick\":\n1}":                   {wrong, wrong},
		"\x00\n" + tick + "\n\xff":         {wrong, "{}", wrong},
		"{}\n[]\n{\"tick\":-1}\n" + tick:   {wrong, wrong, wrong, "{}"},
		open("x") + "\n" + open(`\n`):      {`{"answer":"reject:url"}`, `{"answer":"reject:url"}`},
		open("x\u2028y") + "\n" + open(""): {`{"answer":"reject:url"}`, `{"answer":"reject:url"}`},
		strings.Repeat(" ", 1<<20) + tick + "\n" + tick + strings.Repeat(" ", 1<<20-len(tick)): {wrong, "{}"},
	} {
		same(t, text, report.Run([]byte(text)), want)
	}
}

// P30.5: nothing happens by a line that tells no event.
func TestRunWrongLines(t *testing.T) {
	for _, line := range []string{"nonsense", `{"uninstall":["a"]}`, `{"tick":1e3}`, `{"deliver":{"id":1,"status":1000}}`, `{"toggle":{"app":"a","host":1}}`, `{"install":{"id":"c","apple":{"app":""}}}`, `{"open":"https://x.com/"`} {
		wrong := [2]string{line, `{"error":33}`}
		runs(t, line, [][2]string{
			wrong,
			{appleApp("a", `"x.com"`), asked("a", "1", "apple")},
			wrong,
			{right("1", speaks("a", `"*"`)), `{}`},
			wrong,
			{open("https://x.com/"), `{"answer":"open:one a"}`},
			{`{"tick":43199}`, `{}`},
			wrong,
			{`{"tick":1}`, asked("a", "2", "apple")},
			{install(`"id":"c","apple":{"app":"ABCDE12345.c"}`), `{}`},
		}...)
	}
}

// P30.5: long rows of lines, against a dispatcher to which their events happen.
func TestRunRows(t *testing.T) {
	c := chance(3)
	kinds := map[string]int{}
	for row := range 150 {
		d := dispatch.New()
		var lines, want []string
		last := api.Request{ID: 1}
		for range 60 {
			line := c.line(last)
			lines = append(lines, line)
			if line == "" {
				continue
			}
			e, err := report.Read([]byte(line))
			out := api.Outcome{Err: err}
			if err == nil {
				out = d.Do(e)
			}
			want = append(want, report.Outcome(out))
			if len(out.Requests) > 0 {
				last = one(&c, out.Requests...)
			}
			kinds[pick.Words(out.Answer)]++
			kinds[strconv.Itoa(len(out.Requests))]++
		}
		same(t, row, report.Run([]byte(strings.Join(lines, "\n"))), want)
	}
	for _, what := range []string{"open:one a", "open:one b", "choose:several a b", "choose:several b a", "browser:rules", "browser:off", "browser:unknown", "browser:nobody", "reject:nobody", "1", "2"} {
		same(t, []any{what, "came often"}, kinds[what] > 5, true)
	}
}

// line gives a line of rows: of two apps, and what happens to them, a request among that; or a wrong one, or an empty one.
func (c *chance) line(r api.Request) string {
	app := one(c, "a", "b")
	switch n := c.below(40); {
	case n < 5:
		return appleApp("a", `"x.com","*.y.com"`)
	case n < 10:
		return androidApp("b", `"x.com:443","*.y.com"`)
	case n < 11:
		return `{"uninstall":"` + app + `"}`
	case n < 13:
		return toggle(`"app":"` + app + `","host":"` + one(c, "", "x.com", "q.y.com", "1") + `","on":` + one(c, "true", "true", "false"))
	case n < 16:
		return `{"tick":` + one(c, "0", "1", "60", "120", "1000", "50000") + `}`
	case n < 26:
		body := one(c, "["+grants("b")+"]", `[{"include":"https://h/"},`+grants("b")+`]`, "?")
		if r.Apple {
			body = one(c, speaks("a", `"NOT /no","*"`), speaks("a", `"*"`), "?")
		}
		return right(strconv.FormatUint(r.ID, 10), body)
	case n < 28:
		return deliver(`"id":` + strconv.Itoa(1+c.below(9)) + `,"status":` + one(c, "200", "301", "404") + `,"redirect":` + one(c, "true", "false"))
	case n < 38:
		return open(one(c, "https://x.com/a", "https://X.com/no", "https://q.y.com/", "https://y.com/", "app:x", "x", "https://x.com:8443/"))
	default:
		return one(c, "", "{}", "nonsense", open("x")+"}")
	}
}
