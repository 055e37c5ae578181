package literals

import (
	"cmp"
	"strings"

	"semtype/api"
	"semtype/ident"
)

// First returns the first member of s, by length and then bytewise, that is the Text of a valid key of this kind.
func First(s api.Names, kind int) (name string, found bool) {
	switch {
	case kind != api.KeyAtom && kind != api.KeyString:
		return "", false
	case s.Cofinite:
		return firstUnlisted(s.List, kind), true
	}
	return firstListed(s.List, kind)
}

func firstListed(list []string, kind int) (name string, found bool) {
	for _, n := range list {
		if ident.ValidKey(api.Key{Kind: kind, Text: n}) && (!found || isBefore(n, name)) {
			name, found = n, true
		}
	}
	return name, found
}

func isBefore(a, b string) bool {
	return cmp.Or(cmp.Compare(len(a), len(b)), strings.Compare(a, b)) < 0
}

// firstUnlisted always finds a name that is short enough: a list of all of them would exceed R10.
func firstUnlisted(list []string, kind int) string {
	used := make([]api.Key, len(list))
	for i, n := range list {
		used[i] = api.Key{Kind: kind, Text: n}
	}
	return ident.FreshKey(kind, used...).Text
}
