package dispatch

import (
	"slices"

	"waybill/api"
	"waybill/links"
	"waybill/pick"
	"waybill/route"
	"waybill/url"
)

const colon = ":" // stands behind a candidate's name

// open gives what becomes of a URL, and, of one of a web scheme, the candidates for it.
func (d *Dispatcher) open(s string) (api.Answer, []api.Candidate) {
	u, err := url.Parse(s)
	if err != nil {
		return pick.Refused(err), nil
	}
	if !url.Web(u.Scheme) {
		return pick.Custom(d.apps.Custom(u)), nil
	}
	list := d.candidates(u)
	return pick.Web(list), list
}

// candidates gives what there is for and against each app for a URL of a web scheme.
func (d *Dispatcher) candidates(u api.URL) []api.Candidate {
	var list []api.Candidate
	for id := range d.apps.All() {
		list = append(list, d.candidate(id, u))
	}
	return list
}

// candidate gives what there is for and against an app that is installed.
func (d *Dispatcher) candidate(id string, u api.URL) api.Candidate {
	c := api.Candidate{
		App:    id,
		Claims: d.apps.Claims(id, u.Host),
		Lets:   d.apps.Lets(id, u),
		Off:    d.Off(id, u.Host.Text),
	}
	m, _ := d.apps.Get(id)
	if !m.Apple {
		c.Verified = d.granted(m, u.Host)
		return c
	}
	docs := d.naming(m, u.Host)
	c.Verified = len(docs) > 0
	c.Lets = c.Lets && slices.ContainsFunc(docs, func(a api.Assoc) bool {
		return route.Verdict(a, m.App, u) == api.Lets
	})
	return c
}

// naming gives the documents that prove the claim of a host by an app of Apple's.
func (d *Dispatcher) naming(m api.Manifest, h api.Host) []api.Assoc {
	var list []api.Assoc
	for _, proof := range d.apps.Proofs(m.ID, h) {
		a, ok := d.checks.Assoc(m.ID, proof, d.now)
		if ok && route.Names(a, m.App) {
			list = append(list, a)
		}
	}
	return list
}

// granted tells whether documents prove the claim of a host by an app of Android's.
func (d *Dispatcher) granted(m api.Manifest, h api.Host) bool {
	return slices.ContainsFunc(d.apps.Proofs(m.ID, h), func(proof api.Host) bool {
		list, ok := d.checks.Links(m.ID, proof, d.now)
		return ok && slices.ContainsFunc(m.Prints, func(p api.Print) bool {
			return links.Grants(list, m.Package, p, api.HandleURLs)
		})
	})
}

// line tells a candidate in words.
func line(c api.Candidate) string {
	text := c.App + colon
	for _, one := range [...]struct {
		holds bool
		word  string
	}{{c.Claims, " claims"}, {c.Verified, " verified"}, {c.Lets, " lets"}, {c.Off, " off"}} {
		if one.holds {
			text += one.word
		}
	}
	return text
}
