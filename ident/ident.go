// Package ident is layer 1: names of atoms and type variables, keys of maps, and their notation (shared/doc/01-ident.md).
package ident

import (
	"cmp"
	"strings"

	"semtype/api"
)

// IsAtom reports whether s is the name of an atom.
func IsAtom(s string) bool {
	if len(s) < 1 || len(s) > api.MaxName || !isLower(s[0]) {
		return false
	}
	for i := 1; i < len(s); i++ {
		if !isLower(s[i]) && !isDigit(s[i]) && s[i] != '_' {
			return false
		}
	}
	return true
}

// IsVariable reports whether s is the name of a type variable.
func IsVariable(s string) bool {
	if len(s) < 1 || len(s) > api.MaxName || !isUpper(s[0]) {
		return false
	}
	for i := 1; i < len(s); i++ {
		if !isLower(s[i]) && !isUpper(s[i]) && !isDigit(s[i]) && s[i] != '_' {
			return false
		}
	}
	return true
}

func isLower(c byte) bool { return 'a' <= c && c <= 'z' }

func isUpper(c byte) bool { return 'A' <= c && c <= 'Z' }

func isDigit(c byte) bool { return '0' <= c && c <= '9' }

// ValidKey reports whether k is a key that a map may have.
func ValidKey(k api.Key) bool {
	switch k.Kind {
	case api.KeyAtom:
		return IsAtom(k.Text)
	case api.KeyString:
		return len(k.Text) <= api.MaxText
	}
	return false
}

// CompareKeys orders keys by Kind, then by Text bytewise.
func CompareKeys(a, b api.Key) int {
	if c := cmp.Compare(a.Kind, b.Kind); c != 0 {
		return c
	}
	return strings.Compare(a.Text, b.Text)
}

// FormatKey returns the notation of k, or the empty string if k is not valid.
func FormatKey(k api.Key) string {
	if !ValidKey(k) {
		return ""
	}
	if k.Kind == api.KeyString {
		return Quote(k.Text)
	}
	return k.Text
}

// ParseKey returns the valid key whose notation is s.
func ParseKey(s string) (api.Key, api.Code) {
	k := api.Key{Kind: api.KeyAtom, Text: s}
	if strings.HasPrefix(s, `"`) {
		text, code := Unquote(s)
		if code != api.OK {
			return api.Key{}, code
		}
		k = api.Key{Kind: api.KeyString, Text: text}
	}
	if !ValidKey(k) {
		return api.Key{}, api.ErrSyntax
	}
	return k, api.OK
}
