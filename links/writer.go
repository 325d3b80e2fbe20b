package links

import (
	"strings"

	"waybill/api"
	"waybill/canon"
	"waybill/ident"
	"waybill/scan"
)

// field is a member of an object: its key, and the text of its value.
type field struct{ key, value string }

// written gives a statement's text; the error is that of a text that isn't characters' bytes.
func written(s api.Statement) (string, error) {
	if s.Kind == api.StInclude {
		return canon.Object([]string{keyInclude}, []string{s.Site})
	}
	relations, err := canon.List(s.Relations)
	if err != nil {
		return "", err
	}
	target, err := writtenTarget(s)
	if err != nil {
		return "", err
	}
	return object(field{keyRelation, relations}, field{keyTarget, target}), nil
}

func writtenTarget(s api.Statement) (string, error) {
	switch s.Kind {
	case api.StApp:
		return writtenApp(s)
	case api.StWeb:
		return canon.Object([]string{keyNamespace, keySite}, []string{spaceWeb, s.Site})
	default:
		return canon.Object([]string{keyNamespace}, []string{spaceOther})
	}
}

func writtenApp(s api.Statement) (string, error) {
	name, err := scan.Quote(s.Package)
	if err != nil {
		return "", err
	}
	var texts []string
	for _, p := range s.Prints {
		texts = append(texts, ident.PrintText(p))
	}
	prints, err := canon.List(texts)
	if err != nil {
		return "", err
	}
	return object(field{keyNamespace, `"` + spaceApp + `"`}, field{keyPackage, name}, field{keyPrints, prints}), nil
}

// object writes an object whose fields stand in the order of their keys, all of plain letters.
func object(fields ...field) string {
	var parts []string
	for _, f := range fields {
		parts = append(parts, `"`+f.key+`":`+f.value)
	}
	return "{" + strings.Join(parts, ",") + "}"
}
