package verify

import (
	"slices"
	"strings"

	"waybill/api"
)

func copiedHost(h api.Host) api.Host {
	return api.Host{Kind: h.Kind, Text: strings.Clone(h.Text)}
}

// copiedAssoc gives an association that shares nothing with the one that it is of.
func copiedAssoc(a api.Assoc) api.Assoc {
	return api.Assoc{Details: each(a.Details, copiedDetail), Vars: each(a.Vars, copiedVar)}
}

func copiedDetail(d api.Detail) api.Detail {
	return api.Detail{Apps: each(d.Apps, copiedApp), Rules: each(d.Rules, copiedRule)}
}

func copiedApp(app api.AppID) api.AppID {
	return api.AppID{Team: strings.Clone(app.Team), Bundle: strings.Clone(app.Bundle)}
}

func copiedRule(r api.Rule) api.Rule {
	r.Path = strings.Clone(r.Path)
	r.Query = strings.Clone(r.Query)
	r.Fragment = strings.Clone(r.Fragment)
	r.Items = each(r.Items, copiedItem)
	return r
}

func copiedItem(one api.Item) api.Item {
	return api.Item{Name: strings.Clone(one.Name), Value: strings.Clone(one.Value), Has: one.Has}
}

func copiedVar(v api.Var) api.Var {
	return api.Var{Name: strings.Clone(v.Name), Values: each(v.Values, strings.Clone)}
}

func copiedStatement(s api.Statement) api.Statement {
	s.Relations = each(s.Relations, strings.Clone)
	s.Package = strings.Clone(s.Package)
	s.Prints = slices.Clone(s.Prints)
	s.Site = strings.Clone(s.Site)
	return s
}

// each gives what becomes of each part of a list.
func each[T any](list []T, become func(T) T) []T {
	var others []T
	for _, one := range list {
		others = append(others, become(one))
	}
	return others
}
