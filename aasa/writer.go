package aasa

import (
	"slices"
	"strings"

	"waybill/api"
	"waybill/ident"
	"waybill/scan"
)

// The truths as they are written.
const (
	truth   = "true"
	untruth = "false"
)

// writer writes JSON values in their canonical form. It goes on behind what is wrong, and keeps what that was: of which kind the error is isn't told by what comes first.
type writer struct {
	wrong bool // a text isn't characters' bytes
	twice bool // an object has two members of one key
}

// member is a member of an object: its key, and the text of its value.
type member struct{ key, value string }

func (w *writer) assoc(a api.Assoc) string {
	links := []member{{keyDetails, listOf(a.Details, w.detail)}}
	if len(a.Vars) > 0 {
		links = append(links, member{keyVars, w.variables(a.Vars)})
	}
	return w.object([]member{{keyLinks, w.object(links)}})
}

func (w *writer) variables(vars []api.Var) string {
	var members []member
	for _, v := range vars {
		members = append(members, member{v.Name, listOf(v.Values, w.text)})
	}
	return w.object(members)
}

func (w *writer) detail(d api.Detail) string {
	return w.object([]member{{keyApps, listOf(d.Apps, w.app)}, {keyComponents, listOf(d.Rules, w.rule)}})
}

func (w *writer) app(app api.AppID) string { return w.text(ident.AppText(app)) }

func (w *writer) rule(x api.Rule) string {
	var members []member
	if x.HasPath {
		members = append(members, member{keyPath, w.text(x.Path)})
	}
	if x.HasQuery {
		members = append(members, member{keyQuery, w.text(x.Query)})
	} else if len(x.Items) > 0 {
		members = append(members, member{keyQuery, w.items(x.Items)})
	}
	if x.HasFragment {
		members = append(members, member{keyFragment, w.text(x.Fragment)})
	}
	if x.Exclude {
		members = append(members, member{keyExclude, truth})
	}
	if x.Fold {
		members = append(members, member{keyCase, untruth})
	}
	if x.Decoded {
		members = append(members, member{keyEncoded, untruth})
	}
	return w.object(members)
}

func (w *writer) items(items []api.Item) string {
	var members []member
	for _, item := range items {
		members = append(members, member{item.Name, w.text(item.Value)})
	}
	return w.object(members)
}

// object writes members, their keys rising.
func (w *writer) object(members []member) string {
	slices.SortFunc(members, func(a, b member) int { return strings.Compare(a.key, b.key) })
	var parts []string
	for i, m := range members {
		w.twice = w.twice || i > 0 && members[i-1].key == m.key
		parts = append(parts, w.text(m.key)+":"+m.value)
	}
	return "{" + strings.Join(parts, ",") + "}"
}

func (w *writer) text(s string) string {
	quoted, err := scan.Quote(s)
	w.wrong = w.wrong || err != nil
	return quoted
}

// listOf writes a list, each of whose values is written as told.
func listOf[T any](values []T, write func(v T) string) string {
	var parts []string
	for _, v := range values {
		parts = append(parts, write(v))
	}
	return "[" + strings.Join(parts, ",") + "]"
}
