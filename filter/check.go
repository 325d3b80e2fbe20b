package filter

import (
	"waybill/api"
	"waybill/fold"
	"waybill/glob"
	"waybill/host"
	"waybill/ident"
	"waybill/utf"
)

// Check tells what is wrong with a filter.
func Check(f api.Filter) error {
	if longest(f) > api.MaxParts {
		return api.Fail(api.ErrMany, 0)
	}
	if len(f.Actions) == 0 {
		return api.Fail(api.ErrArg, 0)
	}
	if err := checkSchemes(f.Schemes); err != nil {
		return err
	}
	if len(f.Hosts) > 0 && len(f.Schemes) == 0 {
		return api.Fail(api.ErrHost, 0)
	}
	if err := checkHosts(f.Hosts); err != nil {
		return err
	}
	if len(f.Paths) > 0 && len(f.Hosts) == 0 {
		return api.Fail(api.ErrForm, 0)
	}
	if err := checkPaths(f.Paths); err != nil {
		return err
	}
	if f.AutoVerify && (!claiming(f) || len(f.Hosts) == 0) {
		return api.Fail(api.ErrState, 0)
	}
	return nil
}

// longest tells how many parts the longest of a filter's lists has.
func longest(f api.Filter) int {
	return max(len(f.Actions), len(f.Categories), len(f.Schemes), len(f.Hosts), len(f.Paths))
}

func checkSchemes(list []string) error {
	for i, scheme := range list {
		if err := ident.Scheme(scheme); err != nil {
			return api.Wrap(api.ErrScheme, i, err)
		}
		if fold.Lower(scheme) != scheme {
			return api.Fail(api.ErrScheme, i)
		}
	}
	return nil
}

func checkHosts(list []api.FilterHost) error {
	for i, one := range list {
		if !canonical(one.Pattern) {
			return api.Fail(api.ErrHost, i)
		}
		if one.Port < anyPort || one.Port > api.MaxPort {
			return api.Fail(api.ErrPort, i)
		}
	}
	return nil
}

// canonical tells whether a pattern is the one that its text gives.
func canonical(p api.HostPattern) bool {
	given, err := host.Pattern(host.PatternText(p))
	return err == nil && given == p
}

func checkPaths(list []api.FilterPath) error {
	for i, one := range list {
		var inner error
		switch one.Kind {
		case api.PathPattern:
			inner = glob.CheckSimple(one.Text)
			fallthrough
		case api.PathExact, api.PathPrefix:
			// Told ahead of what is wrong with a pattern.
			if err := utf.Valid([]byte(one.Text)); err != nil {
				inner = err
			}
		default:
			return api.Fail(api.ErrForm, i)
		}
		if inner != nil {
			return api.Wrap(api.ErrForm, i, inner)
		}
	}
	return nil
}
