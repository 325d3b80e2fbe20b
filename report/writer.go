package report

import (
	"slices"
	"strings"

	"waybill/api"
	"waybill/fold"
	"waybill/host"
	"waybill/ident"
	"waybill/scan"
)

const (
	truth    = "true"
	notThere = "" // stands in the place of a value that isn't written, nor its key
)

// writer writes events as JSON values in their canonical form. It goes on behind what is wrong, and keeps what that was: of which kind the error is isn't told by what comes first.
type writer struct {
	wrong  bool // a text isn't characters' bytes
	beyond bool // there is a number that no line can tell
}

// member is a member of an object: its key, and its value as it is written.
type member struct{ key, value string }

func (w *writer) event(e api.Event) string {
	switch e.Kind {
	case api.EvInstall:
		return object(member{keyInstall, w.manifest(e.Manifest)})
	case api.EvUninstall:
		return object(member{keyUninstall, w.text(e.ID)})
	case api.EvToggle:
		return object(member{keyToggle, w.toggle(e)})
	case api.EvTick:
		return object(member{keyTick, fold.Digits(e.N)})
	case api.EvDeliver:
		return object(member{keyDeliver, w.response(e.Response)})
	default:
		return object(member{keyOpen, w.text(e.URL)})
	}
}

func (w *writer) manifest(m api.Manifest) string {
	name := member{keyID, w.text(m.ID)}
	if m.Apple {
		return object(name, member{keyApple, w.apple(m)})
	}
	return object(name, member{keyAndroid, w.android(m)})
}

func (w *writer) apple(m api.Manifest) string {
	return object(
		member{keyApp, w.text(ident.AppText(m.App))},
		member{keyDomains, tellings(w, m.Domains, host.PatternText)},
		member{keySchemes, listOf(m.Schemes, w.text)},
	)
}

func (w *writer) android(m api.Manifest) string {
	return object(
		member{keyPackage, w.text(m.Package)},
		member{keyPrints, tellings(w, m.Prints, ident.PrintText)},
		member{keyFilters, listOf(m.Filters, w.filter)},
	)
}

func (w *writer) filter(f api.Filter) string {
	return object(
		member{keyActions, listOf(f.Actions, w.text)},
		member{keyCategories, listOf(f.Categories, w.text)},
		member{keySchemes, listOf(f.Schemes, w.text)},
		member{keyHosts, tellings(w, f.Hosts, HostText)},
		member{keyPaths, listOf(f.Paths, w.path)},
		member{keyVerify, flag(f.AutoVerify)},
	)
}

func (w *writer) path(p api.FilterPath) string {
	// Ahead of the kind: where both are wrong the text's error is told.
	text := w.text(p.Text)
	switch p.Kind {
	case api.PathExact:
		return object(member{keyExact, text})
	case api.PathPrefix:
		return object(member{keyPrefix, text})
	case api.PathPattern:
		return object(member{keyPattern, text})
	default:
		w.beyond = true
		return object()
	}
}

func (w *writer) toggle(e api.Event) string {
	return object(
		member{keyApp, w.text(e.ID)},
		member{keyHost, w.filled(e.Host)},
		member{keyOn, flag(e.On)},
	)
}

func (w *writer) response(r api.Response) string {
	return object(
		member{keyID, fold.Digits(r.ID)},
		member{keyStatus, w.status(r.Status)},
		member{keyRedirect, flag(r.Redirect)},
		member{keyTimeout, flag(r.Timeout)},
		member{keyType, w.filled(r.Type)},
		member{keyCache, w.filled(r.Cache)},
		member{keyBody, w.filled(string(r.Body))},
	)
}

func (w *writer) status(n int) string {
	switch {
	case n < 0 || n > mostStatus:
		w.beyond = true
		return notThere
	case n == 0:
		return notThere
	default:
		return fold.Digits(uint64(n))
	}
}

// filled writes a text, if it isn't empty.
func (w *writer) filled(s string) string {
	if s == "" {
		return notThere
	}
	return w.text(s)
}

func (w *writer) text(s string) string {
	q, err := scan.Quote(s)
	w.wrong = w.wrong || err != nil
	return q
}

// tellings writes a list of the texts that tell values, if there are any.
func tellings[T any](w *writer, values []T, tell func(v T) string) string {
	return listOf(values, func(v T) string { return w.text(tell(v)) })
}

// listOf writes a list of values, if there are any.
func listOf[T any](values []T, write func(v T) string) string {
	if len(values) == 0 {
		return notThere
	}
	var parts []string
	for _, v := range values {
		parts = append(parts, write(v))
	}
	return "[" + strings.Join(parts, ",") + "]"
}

// flag writes a truth, if it is one.
func flag(is bool) string {
	if !is {
		return notThere
	}
	return truth
}

// object writes those members that are there, their keys rising.
func object(members ...member) string {
	slices.SortFunc(members, func(a, b member) int { return strings.Compare(a.key, b.key) })
	var parts []string
	for _, m := range members {
		if m.value != notThere {
			parts = append(parts, quoted(m.key)+":"+m.value)
		}
	}
	return "{" + strings.Join(parts, ",") + "}"
}

// request writes a request that was asked for.
func request(r api.Request) string {
	return object(
		member{keyApp, quoted(r.App)},
		member{keyID, fold.Digits(r.ID)},
		member{keyURL, quoted(r.URL)},
	)
}

// quoted writes a text, if it is characters' bytes.
func quoted(s string) string {
	q, err := scan.Quote(s)
	if err != nil {
		return notThere
	}
	return q
}
