package dispatch

import (
	"maps"
	"strings"

	"waybill/api"
	"waybill/host"
	"waybill/wire"
)

// lastTick is the tick at which the ticks end.
const lastTick = 1 << 62

// allHosts stands in the place of a host's name, which is never empty.
const allHosts = ""

// offFor is a switch: an app is off for a host, or for all hosts.
type offFor struct{ app, host string }

// install installs an app, whose claims are to be checked then.
func (d *Dispatcher) install(m api.Manifest) error {
	if err := d.apps.Install(m); err != nil {
		return err
	}
	for _, root := range d.apps.Roots(m.ID) {
		d.checks.Need(m.ID, m.Apple, root, d.now)
	}
	return nil
}

// uninstall takes an app away, and all that hangs on it.
func (d *Dispatcher) uninstall(id string) error {
	if err := d.apps.Uninstall(id); err != nil {
		return err
	}
	for _, h := range d.checks.Forget(id) {
		d.book.Drop(id, h)
	}
	d.allOn(id)
	return nil
}

// toggle switches an app off, or on again, for a host, or for all hosts.
func (d *Dispatcher) toggle(id, name string, on bool) error {
	if _, err := d.apps.Get(id); err != nil {
		return err
	}
	if name != allHosts {
		h, err := host.Canon(name)
		if err != nil {
			return api.Wrap(api.ErrHost, 0, err)
		}
		if h.Kind != api.HostName {
			return api.Fail(api.ErrHost, 0)
		}
		name = h.Text
	}
	switch {
	case !on:
		d.off[offFor{strings.Clone(id), name}] = struct{}{}
	case name == allHosts:
		d.allOn(id)
	default:
		delete(d.off, offFor{id, name})
	}
	return nil
}

// allOn leaves all switches of an app out.
func (d *Dispatcher) allOn(id string) {
	maps.DeleteFunc(d.off, func(one offFor, _ struct{}) bool { return one.app == id })
}

// switched tells whether there is a switch.
func (d *Dispatcher) switched(app, name string) bool {
	_, ok := d.off[offFor{app, name}]
	return ok
}

// tick lets ticks go by; fetches that have waited too long by then have failed.
func (d *Dispatcher) tick(n uint64) {
	d.now = min(d.now+min(n, api.MostTick), lastTick)
	for _, r := range d.book.Late(d.now) {
		// A check whose fetch waits is there, and waits for it: there is no error.
		_ = d.checks.Deliver(r.App, r.Host, api.Fetched{Err: api.Fail(api.ErrTime, 0)}, "", d.now)
	}
}

// deliver takes what came of a fetch.
func (d *Dispatcher) deliver(r api.Response) error {
	asked, err := d.book.Take(r.ID)
	if err != nil {
		return err
	}
	f := api.Fetched{Err: wire.Judge(asked.Apple, r)}
	if f.Err == nil {
		f.Body = r.Body
	}
	return d.checks.Deliver(asked.App, asked.Host, f, r.Cache, d.now)
}

// ask asks for the fetches that are needed now.
func (d *Dispatcher) ask() []api.Request {
	var list []api.Request
	for _, w := range d.checks.Due(d.now) {
		r := api.Request{App: w.App, Apple: w.Apple, Host: w.Host, URL: w.URL}
		list = append(list, d.book.Ask(r, d.now))
	}
	return list
}
