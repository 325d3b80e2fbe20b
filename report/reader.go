package report

import (
	"errors"
	"math"

	"waybill/api"
	"waybill/fold"
	"waybill/host"
	"waybill/ident"
	"waybill/jsonp"
)

// nowhere is the number of no value: there is nothing beneath it.
const nowhere = -1

// reader reads a line's values, in the order in which the chapter tells of them. It goes on behind a value that is wrong, and keeps the error of the first one alone; what a layer below says of a text isn't within that.
type reader struct {
	doc *jsonp.Doc
	err error
}

// event reads the line as a whole, from its object on.
func (r *reader) event(line int) api.Event {
	switch key, id := r.first(line, keyInstall, keyUninstall, keyToggle, keyTick, keyDeliver, keyOpen); key {
	case keyInstall:
		return api.Event{Kind: api.EvInstall, Manifest: r.manifest(id)}
	case keyUninstall:
		return api.Event{Kind: api.EvUninstall, ID: r.text(id)}
	case keyToggle:
		return r.toggle(id)
	case keyTick:
		return api.Event{Kind: api.EvTick, N: r.number(id, math.MaxUint64)}
	case keyDeliver:
		return api.Event{Kind: api.EvDeliver, Response: r.response(id)}
	case keyOpen:
		return api.Event{Kind: api.EvOpen, URL: r.text(id)}
	default:
		return api.Event{}
	}
}

func (r *reader) manifest(object int) api.Manifest {
	name := r.text(r.must(object, keyID))
	var m api.Manifest
	switch key, id := r.first(object, keyApple, keyAndroid); key {
	case keyApple:
		m = r.apple(id)
	case keyAndroid:
		m = r.android(id)
	}
	m.ID = name
	return m
}

// apple reads what a manifest of Apple's tells beside its name.
func (r *reader) apple(id int) api.Manifest {
	m := api.Manifest{Apple: true}
	m.App = meant(r, r.must(id, keyApp), ident.App)
	m.Domains = optional(r, id, keyDomains, meanings(r, host.Pattern))
	m.Schemes = optional(r, id, keySchemes, r.texts)
	return m
}

// android reads what a manifest of Android's tells beside its name.
func (r *reader) android(id int) api.Manifest {
	var m api.Manifest
	m.Package = r.text(r.must(id, keyPackage))
	m.Prints = optional(r, id, keyPrints, meanings(r, ident.Print))
	m.Filters = optional(r, id, keyFilters, values(r, r.filter))
	return m
}

func (r *reader) filter(id int) api.Filter {
	var f api.Filter
	f.Actions = optional(r, id, keyActions, r.texts)
	f.Categories = optional(r, id, keyCategories, r.texts)
	f.Schemes = optional(r, id, keySchemes, r.texts)
	f.Hosts = optional(r, id, keyHosts, meanings(r, Host))
	f.Paths = optional(r, id, keyPaths, values(r, r.path))
	f.AutoVerify = optional(r, id, keyVerify, r.flag)
	return f
}

func (r *reader) path(object int) api.FilterPath {
	key, id := r.first(object, keyExact, keyPrefix, keyPattern)
	p := api.FilterPath{Text: r.text(id)}
	switch key {
	case keyExact:
		p.Kind = api.PathExact
	case keyPrefix:
		p.Kind = api.PathPrefix
	case keyPattern:
		p.Kind = api.PathPattern
	}
	return p
}

func (r *reader) toggle(id int) api.Event {
	e := api.Event{Kind: api.EvToggle}
	e.ID = r.text(r.must(id, keyApp))
	e.Host = optional(r, id, keyHost, r.text)
	e.On = optional(r, id, keyOn, r.flag)
	return e
}

func (r *reader) response(id int) api.Response {
	var got api.Response
	got.ID = r.number(r.must(id, keyID), math.MaxUint64)
	got.Status = optional(r, id, keyStatus, r.status)
	got.Redirect = optional(r, id, keyRedirect, r.flag)
	got.Timeout = optional(r, id, keyTimeout, r.flag)
	got.Type = optional(r, id, keyType, r.text)
	got.Cache = optional(r, id, keyCache, r.text)
	// Not by a conversion: an empty body is nil, be it told or not.
	got.Body = append(got.Body, optional(r, id, keyBody, r.text)...)
	return got
}

func (r *reader) status(id int) int { return int(r.number(id, mostStatus)) }

// number reads a number of decimal digits.
func (r *reader) number(id int, most uint64) uint64 {
	node, _ := r.doc.Node(id)
	if node.Kind != api.NodeNumber {
		r.wrong(api.ErrKind, id)
	}
	n, err := fold.Decimal(node.Text, most)
	if err != nil {
		r.wrong(api.ErrForm, id)
	}
	return n
}

func (r *reader) text(id int) string {
	s, err := r.doc.Text(id)
	if err != nil {
		r.wrong(api.ErrKind, id)
	}
	return s
}

func (r *reader) texts(id int) []string { return values(r, r.text)(id) }

func (r *reader) flag(id int) bool {
	is, err := r.doc.Flag(id)
	if err != nil {
		r.wrong(api.ErrKind, id)
	}
	return is
}

// must gives the value of a key that an object must have.
func (r *reader) must(object int, key string) int {
	_, id := r.first(object, key)
	return id
}

// first gives the first of some keys that an object has, one of which must be there, and its value.
func (r *reader) first(object int, keys ...string) (key string, id int) {
	for _, key := range keys {
		if id, ok := r.member(object, key); ok {
			return key, id
		}
	}
	r.wrong(api.ErrName, object)
	return "", nowhere
}

// member gives the value of a key of what must be an object, and whether it is there.
func (r *reader) member(object int, key string) (id int, ok bool) {
	id, err := r.doc.Member(object, key)
	if errors.Is(err, api.ErrKind) {
		r.wrong(api.ErrKind, object)
	}
	return id, err == nil
}

// wrong keeps the error of a value, if it is the first one.
func (r *reader) wrong(kind api.Errno, id int) {
	if r.err == nil {
		n, _ := r.doc.Node(id)
		r.err = api.Wrap(api.ErrDoc, n.At, api.Fail(kind, n.At))
	}
}

// optional reads the value of a key, if it is there.
func optional[T any](r *reader, object int, key string, read func(id int) T) T {
	id, ok := r.member(object, key)
	if !ok {
		var none T
		return none
	}
	return read(id)
}

// values gives what reads the values of a list.
func values[T any](r *reader, read func(id int) T) func(id int) []T {
	return func(id int) []T {
		items, err := r.doc.Items(id)
		if err != nil {
			r.wrong(api.ErrKind, id)
		}
		var all []T
		for _, item := range items {
			all = append(all, read(item))
		}
		return all
	}
}

// meanings gives what reads what the texts of a list tell.
func meanings[T any](r *reader, tell func(s string) (T, error)) func(id int) []T {
	return values(r, func(id int) T { return meant(r, id, tell) })
}

// meant reads what a text tells.
func meant[T any](r *reader, id int, tell func(s string) (T, error)) T {
	v, err := tell(r.text(id))
	if err != nil {
		r.wrong(api.ErrForm, id)
	}
	return v
}
