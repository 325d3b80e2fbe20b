package links

import (
	"errors"

	"waybill/api"
	"waybill/ident"
	"waybill/jsonp"
	"waybill/url"
)

// reader reads a document's values. Its errors stand at the values that are wrong, and are of one number alone, by which one tells them apart: what a layer below says of a text isn't within them.
type reader struct{ doc *jsonp.Doc }

// statements reads all of the document.
func (r reader) statements() ([]api.Statement, error) {
	return listOf(r, 0, api.MaxStatements, r.statement)
}

func (r reader) statement(id int) (api.Statement, error) {
	include, err := r.doc.Member(id, keyInclude)
	switch {
	case err == nil:
		return r.include(include)
	case errors.Is(err, api.ErrName):
		return r.grant(id)
	default:
		return api.Statement{}, err
	}
}

func (r reader) include(id int) (api.Statement, error) {
	site, err := textOf(r, included)(id)
	if err != nil {
		return api.Statement{}, err
	}
	return api.Statement{Kind: api.StInclude, Site: site}, nil
}

// grant reads a statement that includes nothing.
func (r reader) grant(id int) (api.Statement, error) {
	relations, err := memberOf(r, id, keyRelation, r.relations)
	if err != nil {
		return api.Statement{}, err
	}
	s, err := memberOf(r, id, keyTarget, r.target)
	if err != nil {
		return api.Statement{}, err
	}
	s.Relations = relations
	return s, nil
}

func (r reader) relations(id int) ([]string, error) {
	return listOf(r, id, api.MaxRelations, textOf(r, itself(Relation)))
}

// target reads what a statement is about; its relations aren't told there.
func (r reader) target(id int) (api.Statement, error) {
	space, err := memberOf(r, id, keyNamespace, r.doc.Text)
	if err != nil {
		return api.Statement{}, err
	}
	switch space {
	case spaceApp:
		return r.app(id)
	case spaceWeb:
		return r.web(id)
	default:
		return api.Statement{Kind: api.StOther}, nil
	}
}

func (r reader) app(id int) (api.Statement, error) {
	name, err := memberOf(r, id, keyPackage, textOf(r, itself(packageName)))
	if err != nil {
		return api.Statement{}, err
	}
	prints, err := memberOf(r, id, keyPrints, r.prints)
	if err != nil {
		return api.Statement{}, err
	}
	return api.Statement{Kind: api.StApp, Package: name, Prints: prints}, nil
}

func (r reader) prints(id int) ([]api.Print, error) {
	prints, err := listOf(r, id, api.MaxPrints, textOf(r, fingerprint))
	if err == nil && len(prints) == 0 {
		return nil, r.wrong(api.ErrName, id)
	}
	return prints, err
}

func (r reader) web(id int) (api.Statement, error) {
	site, err := memberOf(r, id, keySite, textOf(r, origin))
	if err != nil {
		return api.Statement{}, err
	}
	return api.Statement{Kind: api.StWeb, Site: site}, nil
}

func (r reader) wrong(kind api.Errno, id int) error {
	n, _ := r.doc.Node(id)
	return api.Fail(kind, n.At)
}

// listOf reads the values of a list, up to the first one that is wrong. Whether there are too many is asked ahead of them.
func listOf[T any](r reader, id, most int, read func(id int) (T, error)) ([]T, error) {
	ids, err := r.doc.Items(id)
	if err != nil {
		return nil, err
	}
	if len(ids) > most {
		return nil, r.wrong(api.ErrMany, id)
	}
	var values []T
	for _, id := range ids {
		v, err := read(id)
		if err != nil {
			return nil, err
		}
		values = append(values, v)
	}
	return values, nil
}

// memberOf reads the value of a key, which must be there.
func memberOf[T any](r reader, id int, key string, read func(id int) (T, error)) (T, error) {
	value, err := r.doc.Member(id, key)
	if err != nil {
		var none T
		return none, err
	}
	return read(value)
}

// textOf gives what reads texts, by a check that tells what each stands for, and whether it is right.
func textOf[T any](r reader, check func(s string) (T, bool)) func(id int) (T, error) {
	return func(id int) (T, error) {
		var none T
		s, err := r.doc.Text(id)
		if err != nil {
			return none, err
		}
		v, ok := check(s)
		if !ok {
			return none, r.wrong(api.ErrForm, id)
		}
		return v, nil
	}
}

// itself gives the check of texts that stand for themselves.
func itself(right func(s string) bool) func(s string) (string, bool) {
	return func(s string) (string, bool) { return s, right(s) }
}

func packageName(s string) bool { return ident.Package(s) == nil }

func fingerprint(s string) (api.Print, bool) {
	p, err := ident.Print(s)
	return p, err == nil
}

// included gives the URL of a document that a text includes.
func included(s string) (string, bool) {
	u, err := url.Parse(s)
	u.Fragment, u.HasFrag = "", false
	return url.Text(u), err == nil && u.Scheme == "https"
}

// origin gives the origin of a text that is a site's URL.
func origin(s string) (string, bool) {
	u, err := url.Parse(s)
	return url.Origin(u), err == nil && url.Web(u.Scheme)
}
