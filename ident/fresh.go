package ident

import "semtype/api"

// FreshAtom returns the first atom name, by length and then bytewise, that is not used.
func FreshAtom(used ...string) string {
	taken := map[string]bool{}
	for _, s := range used {
		taken[s] = true
	}
	return firstFree(taken, []byte{'a'}, nextAtom)
}

// FreshKey returns the first key of this kind, by the length of its Text and then bytewise, that is not used.
func FreshKey(kind int, used ...api.Key) api.Key {
	taken := map[string]bool{}
	for _, k := range used {
		if k.Kind == kind {
			taken[k.Text] = true
		}
	}
	switch kind {
	case api.KeyAtom:
		return api.Key{Kind: kind, Text: firstFree(taken, []byte{'a'}, nextAtom)}
	case api.KeyString:
		return api.Key{Kind: kind, Text: firstFree(taken, nil, nextText)}
	}
	return api.Key{}
}

// firstFree needs no limit of length: what is taken would exceed R10 long before a text exceeds MaxName or MaxText bytes.
func firstFree(taken map[string]bool, text []byte, next func([]byte) []byte) string {
	for taken[string(text)] {
		text = next(text)
	}
	return string(text)
}

// nextAtom changes an atom name to the next one and returns it.
func nextAtom(name []byte) []byte {
	for i := len(name) - 1; i > 0; i-- {
		if name[i] != 'z' {
			name[i] = nextAtomByte(name[i])
			return name
		}
		name[i] = '0'
	}
	if name[0] != 'z' {
		name[0]++
		return name
	}
	name[0] = 'a'
	return append(name, '0')
}

// nextAtomByte returns the byte after c among digits, underscore and lower-case letters, which is their bytewise order.
func nextAtomByte(c byte) byte {
	switch c {
	case '9':
		return '_'
	case '_':
		return 'a'
	}
	return c + 1
}

// nextText changes a text of any bytes to the next one and returns it.
func nextText(text []byte) []byte {
	for i := len(text) - 1; i >= 0; i-- {
		text[i]++
		if text[i] != 0 {
			return text
		}
	}
	return append(text, 0)
}
