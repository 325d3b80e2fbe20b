package dispatch_test

import (
	"slices"
	"testing"

	"waybill/aasa"
	"waybill/api"
	"waybill/apps"
	"waybill/chain"
	"waybill/dispatch"
	"waybill/fresh"
	"waybill/host"
	"waybill/links"
	"waybill/pick"
	"waybill/route"
	"waybill/url"
	"waybill/verify"
	"waybill/wire"
)

// waits is a fetch that waits from a tick on.
type waits struct {
	api.Request
	since uint64
}

// model is a dispatcher by the chapter's words.
type model struct {
	now      uint64
	apps     *apps.Set
	list     []api.Manifest
	checks   *verify.Table
	asked    uint64
	fetches  []waits
	switches [][2]string // apps with hosts, an empty one for all hosts
}

func newModel() *model { return &model{apps: apps.New(), checks: verify.New()} }

func (m *model) do(e api.Event) api.Outcome {
	out := api.Outcome{}
	switch e.Kind {
	case api.EvInstall:
		out.Err = m.apps.Install(e.Manifest)
		if out.Err == nil {
			m.list = append(m.list, e.Manifest)
			for _, h := range m.apps.Roots(e.Manifest.ID) {
				m.checks.Need(e.Manifest.ID, e.Manifest.Apple, h, m.now)
			}
		}
	case api.EvUninstall:
		out.Err = m.apps.Uninstall(e.ID)
		if out.Err == nil {
			m.list = slices.DeleteFunc(m.list, func(one api.Manifest) bool { return one.ID == e.ID })
			m.checks.Forget(e.ID)
			m.fetches = slices.DeleteFunc(m.fetches, func(f waits) bool { return f.App == e.ID })
			m.switches = slices.DeleteFunc(m.switches, func(s [2]string) bool { return s[0] == e.ID })
		}
	case api.EvToggle:
		out.Err = m.toggle(e)
	case api.EvTick:
		m.now += min(e.N, 1<<32)
		for _, f := range slices.Clone(m.fetches) {
			if m.now >= f.since+120 {
				m.take(f.ID)
				m.checks.Deliver(f.App, f.Host, api.Fetched{Err: api.ErrTime}, "", m.now)
			}
		}
	case api.EvDeliver:
		f, ok := m.take(e.Response.ID)
		if !ok {
			out.Err = api.Fail(api.ErrName, 0)
			break
		}
		got := api.Fetched{Err: wire.Judge(f.Apple, e.Response), Body: e.Response.Body}
		m.checks.Deliver(f.App, f.Host, got, e.Response.Cache, m.now)
	case api.EvOpen:
		u, err := url.Parse(e.URL)
		switch {
		case err != nil:
			out.Answer = pick.Refused(err)
		case u.Scheme == "http" || u.Scheme == "https":
			out.Answer = pick.Web(m.candidates(u))
		default:
			out.Answer = pick.Custom(m.apps.Custom(u))
		}
	default:
		out.Err = api.Fail(api.ErrKind, 0)
	}
	for _, w := range m.checks.Due(m.now) {
		m.asked++
		r := api.Request{ID: m.asked, App: w.App, Apple: w.Apple, Host: w.Host, URL: w.URL}
		m.fetches = append(m.fetches, waits{r, m.now})
		out.Requests = append(out.Requests, r)
	}
	return out
}

func (m *model) toggle(e api.Event) error {
	if !slices.ContainsFunc(m.list, func(one api.Manifest) bool { return one.ID == e.ID }) {
		return api.Fail(api.ErrName, 0)
	}
	key := [2]string{e.ID, ""}
	if e.Host != "" {
		h, err := host.Canon(e.Host)
		if err != nil {
			return api.Wrap(api.ErrHost, 0, err)
		}
		if h.Kind != api.HostName {
			return api.Fail(api.ErrHost, 0)
		}
		key[1] = h.Text
	}
	m.switches = slices.DeleteFunc(m.switches, func(s [2]string) bool {
		return s == key || e.On && e.Host == "" && s[0] == e.ID
	})
	if !e.On {
		m.switches = append(m.switches, key)
	}
	return nil
}

func (m *model) take(id uint64) (waits, bool) {
	for i, f := range m.fetches {
		if f.ID == id {
			m.fetches = slices.Delete(m.fetches, i, i+1)
			return f, true
		}
	}
	return waits{}, false
}

func (m *model) off(app, h string) bool {
	return slices.Contains(m.switches, [2]string{app, ""}) || slices.Contains(m.switches, [2]string{app, h})
}

func (m *model) candidates(u api.URL) []api.Candidate {
	var all []api.Candidate
	for _, one := range m.list {
		c := api.Candidate{App: one.ID, Claims: m.apps.Claims(one.ID, u.Host), Lets: m.apps.Lets(one.ID, u), Off: m.off(one.ID, u.Host.Text)}
		ruled := false
		for _, h := range m.apps.Proofs(one.ID, u.Host) {
			if m.checks.State(one.ID, h, m.now) != api.SiteGood {
				continue
			}
			a, _ := m.checks.Assoc(one.ID, h, m.now)
			list, _ := m.checks.Links(one.ID, h, m.now)
			c.Verified = c.Verified || one.Apple && route.Names(a, one.App)
			ruled = ruled || route.Verdict(a, one.App, u) == api.Lets
			for _, p := range one.Prints {
				c.Verified = c.Verified || links.Grants(list, one.Package, p, api.HandleURLs)
			}
		}
		c.Lets = c.Lets && (ruled || !one.Apple)
		all = append(all, c)
	}
	return all
}

// stands asks that a dispatcher tells what the model does.
func (m *model) stands(t *testing.T, what any, d *dispatch.Dispatcher) {
	t.Helper()
	var ids []string
	for _, one := range m.list {
		ids = append(ids, one.ID)
	}
	same(t, what, names(d), ids)
	same(t, what, []any{d.Now(), d.Waiting()}, []any{m.now, len(m.fetches)})
	var all []api.Check
	for c := range m.checks.Each(m.now) {
		all = append(all, c)
	}
	same(t, what, checks(d), all)
	for _, s := range rowURLs {
		u, err := url.Parse(s)
		got, gotErr := d.Candidates(s)
		switch {
		case err != nil:
			same(t, what, []any{len(got), tells(gotErr)}, []any{0, tells(err)})
		case !url.Web(u.Scheme):
			same(t, what, []any{len(got), tells(gotErr)}, []any{0, told{kind: api.ErrScheme}})
		default:
			same(t, what, append([]api.Candidate(nil), got...), m.candidates(u))
			for _, id := range []string{"a", "b", "c", "d"} {
				same(t, what, d.Off(id, u.Host.Text), m.off(id, u.Host.Text))
			}
		}
	}
}

var rowURLs = []string{"https://x.com/a", "http://x.com/a", "https://X.com/no", "https://q.y.com/a", "https://y.com/", "https://q.y.com/b", "app:x", "https://u@x.com/", "https://1.2.3.4/a"}

// rowApps are the apps of rows: two of Apple's, and two of Android's.
func rowApps() []api.Manifest {
	a, b := apple("a", "x.com", "*.y.com"), apple("b", "y.com", "q.y.com", "x.com")
	c, d := android("c", "x.com", "*.y.com"), android("d", "*.y.com", "q.y.com", "y.com")
	a.Schemes = []string{"app"}
	c.Filters[0].Paths = []api.FilterPath{{Kind: api.PathPrefix, Text: "/a"}}
	d.Filters = append(d.Filters, filterOf([]string{"app"}))
	return []api.Manifest{a, b, c, d, apple("a", "z.com"), apple("", "x.com")}
}

var rowBodies = []string{
	speaks("a", "NOT /no", "*"),
	speaks("b", "/a"),
	`{"applinks":{"details":[{"appIDs":["` + team + `.a","` + team + `.b"],"components":[{"/":"/a"},{"/":"/b"}]}]}}`,
	list(grants("c"), grants("d")),
	list(grants("d"), in("https://h/1")),
	list(in("https://h/1"), in("https://h/2"), grants("c")),
	"?",
	list(),
}

// chance gives numbers that look as if they came by chance, the same ones for a seed.
type chance uint32

func (c *chance) below(n int) int {
	*c = *c*1664525 + 1013904223
	return int(*c>>16) % n
}

// event gives one of the events of rows; of a response's numbers those that wait are likely.
func (c *chance) event(waiting []waits) api.Event {
	ids := []string{"a", "b", "c", "d", "e"}
	switch n := c.below(20); {
	case n < 4:
		list := rowApps()
		return api.Event{Kind: api.EvInstall, Manifest: list[c.below(len(list))]}
	case n < 5:
		return api.Event{Kind: api.EvUninstall, ID: ids[c.below(len(ids))]}
	case n < 7:
		hosts := []string{"", "x.com", "Q.y.com", "y.com", "[", "1.2.3.4"}
		return api.Event{Kind: api.EvToggle, ID: ids[c.below(len(ids))], Host: hosts[c.below(len(hosts))], On: c.below(2) == 0}
	case n < 10:
		ticks := []uint64{0, 1, 30, 60, 119, 120, 150, 300, 40000}
		return api.Event{Kind: api.EvTick, N: ticks[c.below(len(ticks))]}
	case n < 18:
		r := right(uint64(c.below(9)), []string{"", "no-store", "max-age=400"}[c.below(3)], rowBodies[c.below(len(rowBodies))])
		if len(waiting) > 0 && c.below(10) > 0 {
			r.ID = waiting[c.below(len(waiting))].ID
		}
		switch c.below(12) {
		case 0:
			r.Status = 404
		case 1:
			r.Redirect = true
		}
		return api.Event{Kind: api.EvDeliver, Response: r}
	case n < 19:
		return api.Event{Kind: api.EvOpen, URL: rowURLs[c.below(len(rowURLs))]}
	default:
		return api.Event{Kind: c.below(9) - 1}
	}
}

// P29.1: long rows of events, against the chapter's words.
func TestRows(t *testing.T) {
	c := chance(1)
	for row := range 300 {
		d, m := dispatch.New(), newModel()
		for at := range 60 {
			e := c.event(m.fetches)
			what := []any{"row", row, "event", at, e}
			got, want := d.Do(e), m.do(e)
			same(t, what, tells(got.Err), tells(want.Err))
			same(t, what, got.Answer, want.Answer)
			same(t, what, requests(got.Requests), requests(want.Requests))
			m.stands(t, what, d)
		}
		if t.Failed() {
			return
		}
	}
}

// past is what has happened: events, what came of each, and the tick behind it.
type past []struct {
	e   api.Event
	out api.Outcome
	now uint64
}

func (p *past) add(d *dispatch.Dispatcher, e api.Event) api.Outcome {
	out := d.Do(e)
	*p = append(*p, struct {
		e   api.Event
		out api.Outcome
		now uint64
	}{e, out, d.Now()})
	return out
}

// installed gives what has happened since an app was installed the last time, and the app; false, if it isn't there.
func (p past) installed(id string) (since past, m api.Manifest, ok bool) {
	for at, one := range p {
		if one.out.Err != nil {
			continue
		}
		if one.e.Kind == api.EvInstall && one.e.Manifest.ID == id {
			since, m, ok = p[at:], one.e.Manifest, true
		}
		if one.e.Kind == api.EvUninstall && one.e.ID == id {
			ok = false
		}
	}
	return since, m, ok
}

// outcome gives what came of a request, and when: of one that was too late an empty response; false, if nothing came yet.
func (p past) outcome(r api.Request) (got api.Response, when uint64, ok bool) {
	asked, found := uint64(0), false
	for _, one := range p {
		switch {
		case found && one.e.Kind == api.EvDeliver && one.e.Response.ID == r.ID && one.out.Err == nil:
			return one.e.Response, one.now, true
		case found && one.now >= asked+120:
			return api.Response{}, one.now, true
		}
		if slices.ContainsFunc(one.out.Requests, func(other api.Request) bool { return other.ID == r.ID }) {
			asked, found = one.now, true
		}
	}
	return api.Response{}, 0, false
}

// fetched gives the requests of an app for a host, in order.
func (p past) fetched(id, h string) []api.Request {
	var list []api.Request
	for _, one := range p {
		for _, r := range one.out.Requests {
			if r.App == id && r.Host == name(h) {
				list = append(list, r)
			}
		}
	}
	return list
}

// provedApple tells whether a document of Apple's that came lets a URL, and isn't too old.
func (p past) provedApple(m api.Manifest, h string, u api.URL, now uint64) bool {
	return slices.ContainsFunc(p.fetched(m.ID, h), func(r api.Request) bool {
		got, when, ok := p.outcome(r)
		if !ok || got.Status != 200 || got.Redirect || now-when >= fresh.Life(got.Cache) {
			return false
		}
		a, err := aasa.Decode(got.Body)
		return err == nil && route.Verdict(a, m.App, u) == api.Lets
	})
}

// provedAndroid tells whether one of the documents of a chain speaks for an app, whose last outcome isn't too long ago.
func (p past) provedAndroid(m api.Manifest, h string, now uint64) bool {
	speaks, good, life := false, false, uint64(0)
	for _, r := range p.fetched(m.ID, h) {
		got, when, ok := p.outcome(r)
		if r.URL == chain.Root(name(h)) {
			speaks, life = false, fresh.Life(got.Cache)
		}
		if ok && got.Status == 200 && !got.Redirect {
			list, err := links.Decode(got.Body)
			speaks = speaks || err == nil && slices.ContainsFunc(m.Prints, func(x api.Print) bool {
				return links.Grants(list, m.Package, x, api.HandleURLs)
			})
		}
		good = good || ok && speaks && now-when < life
	}
	return good
}

// P29.2: for an answer OpenApp there was a document that spoke for it, and isn't too old.
func TestWhoOpens(t *testing.T) {
	c := chance(2)
	opened := map[bool]int{}
	for row := range 300 {
		d, p := dispatch.New(), past{}
		var waiting []waits
		for at := range 50 {
			for _, r := range p.add(d, c.event(waiting)).Requests {
				waiting = append(waiting, waits{Request: r})
			}
			waiting = waiting[max(0, len(waiting)-4):]
			for _, s := range rowURLs {
				u, err := url.Parse(s)
				answer := open(d, s)
				if err != nil || !url.Web(u.Scheme) || answer.Kind != api.OpenApp {
					continue
				}
				id := answer.Apps[0]
				since, m, ok := p.installed(id)
				hosts := []string{u.Host.Text}
				for _, wild := range append(slices.Clone(m.Domains), patternsOf(m)...) {
					if wild.Wild && host.Match(wild, u.Host) {
						hosts = append(hosts, wild.Name)
					}
				}
				proved := func(h string) bool {
					if m.Apple {
						return since.provedApple(m, h, u, d.Now())
					}
					return since.provedAndroid(m, h, d.Now())
				}
				opened[m.Apple]++
				if len(answer.Apps) != 1 || !ok || !slices.ContainsFunc(hosts, proved) {
					t.Fatalf("row %d, event %d, %q: %v, %v", row, at, s, answer, p)
				}
			}
		}
	}
	same(t, "whether apps of both kinds have opened URLs", []bool{opened[true] > 200, opened[false] > 200}, []bool{true, true})
}

// patternsOf gives the patterns of hosts that an app's filters have.
func patternsOf(m api.Manifest) []api.HostPattern {
	var list []api.HostPattern
	for _, f := range m.Filters {
		for _, h := range f.Hosts {
			list = append(list, h.Pattern)
		}
	}
	return list
}

// side is a dispatcher, and for each app and host the number of the fetch that waits.
type side struct {
	d     *dispatch.Dispatcher
	waits map[[2]string]uint64
}

func newSide() *side { return &side{dispatch.New(), map[[2]string]uint64{}} }

func (s *side) do(e api.Event) api.Outcome {
	out := s.d.Do(e)
	for _, r := range out.Requests {
		s.waits[[2]string{r.App, r.Host.Text}] = r.ID
	}
	return out
}

// comes delivers a response to the last fetch of an app for a host.
func (s *side) comes(app, h string, r api.Response) {
	r.ID = s.waits[[2]string{app, h}]
	s.do(api.Event{Kind: api.EvDeliver, Response: r})
}

// P29.3: what comes of fetches for other hosts, and what URLs of these are opened, changes no answer for a host.
func TestOthersHosts(t *testing.T) {
	manifests := []api.Manifest{apple("a", "y.com", "x.com"), apple("b", "x.com", "*.y.com"), android("c", "z.com", "x.com", "y.com"), android("d", "*.x.com", "y.com", "z.com")}
	ours := []string{"https://x.com/a", "https://x.com/b", "http://x.com/", "https://q.x.com/a"}
	kinds := map[int]int{}
	for row := range 150 {
		c, others := chance(row), []*chance{new(chance), new(chance)}
		*others[0], *others[1] = chance(7*row+1), chance(9*row+5)
		sides := []*side{newSide(), newSide()}
		for at := range 60 {
			e := c.event(nil)
			body, cache := rowBodies[c.below(len(rowBodies))], []string{"no-store", "max-age=500"}[c.below(2)]
			app := manifests[c.below(4)]
			response := right(0, cache, body)
			ofOurs := c.below(2) == 0
			for i, s := range sides {
				switch {
				case e.Kind == api.EvInstall:
					s.do(api.Event{Kind: api.EvInstall, Manifest: app})
				case e.Kind == api.EvDeliver && ofOurs:
					s.comes(app.ID, "x.com", response)
				case e.Kind == api.EvDeliver:
					other := others[i]
					r := right(0, []string{"no-store", "", "max-age=400"}[other.below(3)], rowBodies[other.below(len(rowBodies))])
					r.Status = []int{200, 200, 404}[other.below(3)]
					s.comes(app.ID, []string{"y.com", "z.com"}[other.below(2)], r)
					open(s.d, []string{"https://y.com/a", "https://z.com/", "https://q.y.com/"}[other.below(3)])
				default:
					s.do(e)
				}
			}
			for _, u := range ours {
				one, two := open(sides[0].d, u), open(sides[1].d, u)
				kinds[one.Reason]++
				same(t, []any{row, at, u}, one, two)
			}
		}
		if t.Failed() {
			return
		}
	}
	for why := api.WhyNobody; why <= api.WhySeveral; why++ {
		same(t, []any{"whether there were many answers of reason", why}, kinds[why] > 25, true)
	}
}
