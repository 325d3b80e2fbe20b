package aasa

import (
	"waybill/api"
	"waybill/ident"
	"waybill/jsonp"
	"waybill/subst"
)

// reader reads a document's values. Its errors stand at the values that are wrong, and are of one number alone, by which one tells them apart: what a layer below says of a name, or a pattern, isn't within them.
type reader struct {
	doc  *jsonp.Doc
	vars []api.Var // those that patterns may have
}

// fields are an object's members: of each key the number of its value.
type fields map[string]int

// flags are what may be told for many components at once.
type flags struct{ caseSensitive, percentEncoded bool }

// assoc reads all of the document.
func (r *reader) assoc() (api.Assoc, error) {
	id, err := r.doc.Member(0, keyLinks)
	if err != nil {
		return api.Assoc{}, err
	}
	links, err := r.object(id)
	if err != nil {
		return api.Assoc{}, err
	}
	above, err := r.defaults(links, flags{caseSensitive: true, percentEncoded: true})
	if err != nil {
		return api.Assoc{}, err
	}
	// Kept at once: the patterns of the details may have them.
	if r.vars, err = optional(links, keyVars, nil, r.variables); err != nil {
		return api.Assoc{}, err
	}
	details, err := optional(links, keyDetails, nil, func(id int) ([]api.Detail, error) { return r.details(id, above) })
	if err != nil {
		return api.Assoc{}, err
	}
	return api.Assoc{Details: details, Vars: r.vars}, nil
}

func (r *reader) variables(id int) ([]api.Var, error) {
	members, err := r.doc.Members(id)
	if err != nil {
		return nil, err
	}
	if len(members) > api.MaxVars {
		return nil, r.wrong(api.ErrMany, id)
	}
	return each(members, r.variable)
}

func (r *reader) variable(id int) (api.Var, error) {
	values, err := r.doc.Texts(id)
	if err != nil {
		return api.Var{}, err
	}
	v := api.Var{Name: r.key(id), Values: values}
	if subst.CheckVar(v) != nil {
		return api.Var{}, r.wrong(api.ErrForm, id)
	}
	return v, nil
}

// details reads a list of details, or an object of them.
func (r *reader) details(id int, above flags) ([]api.Detail, error) {
	ids, err := r.doc.Items(id)
	keyed := err != nil
	if keyed {
		ids, err = r.doc.Members(id)
	}
	if err != nil {
		return nil, err
	}
	if len(ids) > api.MaxDetails {
		return nil, r.wrong(api.ErrMany, id)
	}
	return each(ids, func(id int) (api.Detail, error) { return r.detail(id, keyed, above) })
}

// detail reads a detail; keyed: its key is its first app.
func (r *reader) detail(id int, keyed bool, above flags) (api.Detail, error) {
	own, err := r.object(id)
	if err != nil {
		return api.Detail{}, err
	}
	apps, err := r.apps(id, keyed, own)
	if err != nil {
		return api.Detail{}, err
	}
	above, err = r.defaults(own, above)
	if err != nil {
		return api.Detail{}, err
	}
	rules, err := r.rules(own, above)
	if err != nil {
		return api.Detail{}, err
	}
	return api.Detail{Apps: apps, Rules: rules}, nil
}

// apps reads the apps of a detail.
func (r *reader) apps(id int, keyed bool, own fields) ([]api.AppID, error) {
	var list []api.AppID
	if keyed {
		app, err := r.app(r.key(id), id)
		if err != nil {
			return nil, err
		}
		list = append(list, app)
	}
	ids, err := optional(own, keyApps, nil, r.doc.Items)
	if err != nil {
		return nil, err
	}
	if id, ok := own[keyApp]; ok {
		ids = append(ids, id)
	}
	more, err := each(ids, func(id int) (api.AppID, error) {
		s, err := r.doc.Text(id)
		if err != nil {
			return api.AppID{}, err
		}
		return r.app(s, id)
	})
	if err != nil {
		return nil, err
	}
	list = append(list, more...)
	if len(list) == 0 {
		return nil, r.wrong(api.ErrName, id)
	}
	return list, nil
}

// app gives the app of a text that a value tells.
func (r *reader) app(s string, id int) (api.AppID, error) {
	app, err := ident.App(s)
	if err != nil {
		return api.AppID{}, r.wrong(api.ErrForm, id)
	}
	return app, nil
}

// rules reads the rules of a detail.
func (r *reader) rules(own fields, above flags) ([]api.Rule, error) {
	read := func(id int) (api.Rule, error) { return r.component(id, above) }
	list, ok := own[keyComponents]
	if !ok {
		read = r.elder
		if list, ok = own[keyPaths]; !ok {
			return nil, nil
		}
	}
	ids, err := r.doc.Items(list)
	if err != nil {
		return nil, err
	}
	if len(ids) > api.MaxRules {
		return nil, r.wrong(api.ErrMany, list)
	}
	return each(ids, read)
}

// elder reads an elder path.
func (r *reader) elder(id int) (api.Rule, error) {
	s, err := r.doc.Text(id)
	if err != nil {
		return api.Rule{}, err
	}
	x, err := Legacy(s)
	if err != nil {
		return api.Rule{}, api.Wrap(api.ErrForm, r.at(id), err)
	}
	return x, nil
}

func (r *reader) component(id int, above flags) (api.Rule, error) {
	own, err := r.object(id)
	if err != nil {
		return api.Rule{}, err
	}
	var x api.Rule
	if x.Path, x.HasPath, err = r.part(own, keyPath); err != nil {
		return api.Rule{}, err
	}
	if err = r.query(own, &x); err != nil {
		return api.Rule{}, err
	}
	if x.Fragment, x.HasFragment, err = r.part(own, keyFragment); err != nil {
		return api.Rule{}, err
	}
	if x.Exclude, err = optional(own, keyExclude, false, r.doc.Flag); err != nil {
		return api.Rule{}, err
	}
	f, err := r.flagsIn(own, above)
	if err != nil {
		return api.Rule{}, err
	}
	x.Fold, x.Decoded = !f.caseSensitive, !f.percentEncoded
	if _, err = optional(own, keyComment, "", r.doc.Text); err != nil {
		return api.Rule{}, err
	}
	return x, nil
}

// query reads what a component wants of the query, for its rule: to be in a pattern as a whole, or items.
func (r *reader) query(own fields, x *api.Rule) error {
	if id, ok := own[keyQuery]; ok {
		if members, err := r.doc.Members(id); err == nil {
			x.Items, err = each(members, r.item)
			return err
		}
	}
	var err error
	x.Query, x.HasQuery, err = r.part(own, keyQuery)
	return err
}

func (r *reader) item(id int) (api.Item, error) {
	value, err := r.pattern(id)
	if err != nil {
		return api.Item{}, err
	}
	return api.Item{Name: r.key(id), Value: value, Has: true}, nil
}

// part reads the pattern of a key, and whether there is one.
func (r *reader) part(own fields, key string) (pattern string, has bool, err error) {
	pattern, err = optional(own, key, "", r.pattern)
	_, has = own[key]
	return pattern, has && err == nil, err
}

func (r *reader) pattern(id int) (string, error) {
	s, err := r.doc.Text(id)
	if err != nil {
		return "", err
	}
	if subst.Check(s, r.vars) != nil {
		return "", r.wrong(api.ErrForm, id)
	}
	return s, nil
}

// defaults reads the flags that an object tells for what is in it.
func (r *reader) defaults(own fields, above flags) (flags, error) {
	return optional(own, keyDefaults, above, func(id int) (flags, error) {
		list, err := r.object(id)
		if err != nil {
			return flags{}, err
		}
		return r.flagsIn(list, above)
	})
}

// flagsIn reads the flags among an object's members; where one isn't there that above holds.
func (r *reader) flagsIn(own fields, above flags) (flags, error) {
	caseSensitive, err := optional(own, keyCase, above.caseSensitive, r.doc.Flag)
	if err != nil {
		return flags{}, err
	}
	percentEncoded, err := optional(own, keyEncoded, above.percentEncoded, r.doc.Flag)
	if err != nil {
		return flags{}, err
	}
	return flags{caseSensitive: caseSensitive, percentEncoded: percentEncoded}, nil
}

// object gives an object's members by their keys.
func (r *reader) object(id int) (fields, error) {
	members, err := r.doc.Members(id)
	if err != nil {
		return nil, err
	}
	own := fields{}
	for _, member := range members {
		own[r.key(member)] = member
	}
	return own, nil
}

func (r *reader) key(id int) string {
	n, _ := r.doc.Node(id)
	return n.Key
}

func (r *reader) at(id int) int {
	n, _ := r.doc.Node(id)
	return n.At
}

func (r *reader) wrong(kind api.Errno, id int) error { return api.Fail(kind, r.at(id)) }

// optional reads the value of a key; where there is none it is as told.
func optional[T any](own fields, key string, without T, read func(id int) (T, error)) (T, error) {
	id, ok := own[key]
	if !ok {
		return without, nil
	}
	return read(id)
}

// each reads values, up to the first one that is wrong.
func each[T any](ids []int, read func(id int) (T, error)) ([]T, error) {
	var list []T
	for _, id := range ids {
		v, err := read(id)
		if err != nil {
			return nil, err
		}
		list = append(list, v)
	}
	return list, nil
}
