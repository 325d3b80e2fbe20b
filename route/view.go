package route

import (
	"slices"

	"waybill/api"
	"waybill/percent"
	"waybill/query"
	"waybill/subst"
	"waybill/utf"
)

// part is a part of a URL as a rule looks at it, if it can be looked at.
type part struct {
	text string
	ok   bool
}

// parts are those of a URL that rules look at.
type parts struct{ path, query, fragment part }

// view is a URL as rules look at it, with their variables. It is made once for all rules of an association: these may be many, and the URL long.
type view struct {
	vars           []api.Var
	plain, decoded parts
	items          []api.Item
}

// look gives the view of a URL.
func look(u api.URL, vars []api.Var) view {
	asked, fragment := told(u.Query, u.HasQuery), told(u.Fragment, u.HasFrag)
	// Beside an error there are no items, so that none that a rule wants is among them.
	items, _ := query.Items(asked)
	return view{
		vars:    vars,
		plain:   parts{path: plain(u.Path), query: plain(asked), fragment: plain(fragment)},
		decoded: parts{path: decoded(u.Path), query: decoded(asked), fragment: decoded(fragment)},
		items:   items,
	}
}

// suits tells whether the URL is as a rule wants it.
func (v view) suits(x api.Rule) bool {
	p := v.plain
	if x.Decoded {
		p = v.decoded
	}
	fits := func(wanted bool, p part, pattern string) bool {
		return !wanted || p.ok && subst.Match(pattern, v.vars, p.text, x.Fold)
	}
	return fits(x.HasPath, p.path, x.Path) &&
		fits(x.HasQuery, p.query, x.Query) &&
		fits(x.HasFragment, p.fragment, x.Fragment) &&
		v.has(x.Items, x.Fold)
}

// has tells whether the query has all items that a rule wants.
func (v view) has(patterns []api.Item, fold bool) bool {
	for _, p := range patterns {
		fits := func(item api.Item) bool {
			return item.Name == p.Name && subst.Match(p.Value, v.vars, item.Value, fold)
		}
		if !slices.ContainsFunc(v.items, fits) {
			return false
		}
	}
	return true
}

// told gives a text that a URL tells, or the empty one that it has without that.
func told(s string, has bool) string {
	if !has {
		return ""
	}
	return s
}

func plain(s string) part { return part{text: s, ok: true} }

func decoded(s string) part {
	b, err := percent.Decode(s)
	if err != nil || utf.Valid(b) != nil {
		return part{}
	}
	return part{text: string(b), ok: true}
}
