package apps

import (
	"slices"
	"strings"

	"waybill/api"
	"waybill/filter"
	"waybill/fold"
	"waybill/host"
	"waybill/ident"
	"waybill/quad"
	"waybill/url"
	"waybill/utf"
)

const (
	mostID = 100 // bytes

	bracket = "[" // an IPv6 address's text begins with it
)

// Check tells what is wrong with a manifest.
func Check(m api.Manifest) error {
	if m.ID == "" || len(m.ID) > mostID || utf.Valid([]byte(m.ID)) != nil {
		return api.Fail(api.ErrName, 0)
	}
	if m.Apple {
		return checkApple(m)
	}
	return checkAndroid(m)
}

func checkApple(m api.Manifest) error {
	app, err := ident.App(ident.AppText(m.App))
	if err != nil {
		return api.Wrap(api.ErrForm, 0, err)
	}
	// A point in the team makes another name of the same text.
	if app != m.App {
		return api.Fail(api.ErrForm, 0)
	}
	if len(m.Domains) > api.MaxParts || len(m.Schemes) > api.MaxParts {
		return api.Fail(api.ErrMany, 0)
	}
	for i, p := range m.Domains {
		if !domain(p) {
			return api.Fail(api.ErrHost, i)
		}
	}
	for i, scheme := range m.Schemes {
		if err := ident.Scheme(scheme); err != nil {
			return api.Wrap(api.ErrScheme, i, err)
		}
		if fold.Lower(scheme) != scheme || url.Web(scheme) {
			return api.Fail(api.ErrScheme, i)
		}
	}
	return nil
}

func checkAndroid(m api.Manifest) error {
	if err := ident.Package(m.Package); err != nil {
		return api.Wrap(api.ErrForm, 0, err)
	}
	if len(m.Prints) == 0 || len(m.Prints) > api.MaxPrints || len(m.Filters) > api.MaxFilters {
		return api.Fail(api.ErrMany, 0)
	}
	for i, f := range m.Filters {
		if err := filter.Check(f); err != nil {
			return api.Wrap(api.ErrKind, i, err)
		}
	}
	return nil
}

// domain tells whether a pattern is canonical, and has a name, which is no address's text.
func domain(p api.HostPattern) bool {
	given, err := host.Pattern(host.PatternText(p))
	if err != nil || given != p || p.Name == "" {
		return false
	}
	return !strings.HasPrefix(p.Name, bracket) && !quad.Numeric(p.Name)
}

// copied gives a manifest that shares nothing with the one that it is of.
func copied(m api.Manifest) api.Manifest {
	m.ID = strings.Clone(m.ID)
	m.App = api.AppID{Team: strings.Clone(m.App.Team), Bundle: strings.Clone(m.App.Bundle)}
	m.Domains = each(m.Domains, copiedPattern)
	m.Schemes = each(m.Schemes, strings.Clone)
	m.Package = strings.Clone(m.Package)
	m.Prints = slices.Clone(m.Prints)
	m.Filters = each(m.Filters, copiedFilter)
	return m
}

func copiedFilter(f api.Filter) api.Filter {
	f.Actions = each(f.Actions, strings.Clone)
	f.Categories = each(f.Categories, strings.Clone)
	f.Schemes = each(f.Schemes, strings.Clone)
	f.Hosts = each(f.Hosts, func(one api.FilterHost) api.FilterHost {
		return api.FilterHost{Pattern: copiedPattern(one.Pattern), Port: one.Port}
	})
	f.Paths = each(f.Paths, func(one api.FilterPath) api.FilterPath {
		return api.FilterPath{Kind: one.Kind, Text: strings.Clone(one.Text)}
	})
	return f
}

func copiedPattern(p api.HostPattern) api.HostPattern {
	return api.HostPattern{Wild: p.Wild, Name: strings.Clone(p.Name)}
}

// each gives what becomes of each part of a list.
func each[T any](list []T, become func(T) T) []T {
	var others []T
	for _, one := range list {
		others = append(others, become(one))
	}
	return others
}
