package ident

import (
	"bytes"
	"strings"

	"semtype/api"
)

const hexDigits = "0123456789abcdef"

// Quote returns s between double quotes, with escapes for the bytes that do not stand for themselves.
func Quote(s string) string {
	var b bytes.Buffer
	b.Grow(len(s) + 2)
	b.WriteByte('"')
	for i := 0; i < len(s); i++ {
		writeQuoted(&b, s[i])
	}
	b.WriteByte('"')
	return b.String()
}

func writeQuoted(b *bytes.Buffer, c byte) {
	switch {
	case c == '"' || c == '\\':
		b.WriteByte('\\')
		b.WriteByte(c)
	case isPrintable(c):
		b.WriteByte(c)
	default:
		b.WriteString(`\x`)
		b.WriteByte(hexDigits[c>>4])
		b.WriteByte(hexDigits[c&15])
	}
}

func isPrintable(c byte) bool { return 0x20 <= c && c <= 0x7e }

// Unquote returns the string whose Quote is s.
func Unquote(s string) (string, api.Code) {
	if len(s) < 2 || s[0] != '"' || s[len(s)-1] != '"' {
		return "", api.ErrSyntax
	}
	var b bytes.Buffer
	for inside := s[1 : len(s)-1]; inside != ""; {
		c, size := unquoteByte(inside)
		if size == 0 {
			return "", api.ErrSyntax
		}
		b.WriteByte(c)
		inside = inside[size:]
	}
	return b.String(), api.OK
}

// unquoteByte returns the byte whose representation begins s, which is not empty, and the size of the representation: 0 if there is none.
func unquoteByte(s string) (c byte, size int) {
	switch {
	case s[0] == '"' || !isPrintable(s[0]):
		return 0, 0
	case s[0] != '\\':
		return s[0], 1
	case len(s) >= 2 && (s[1] == '"' || s[1] == '\\'):
		return s[1], 2
	case len(s) >= 4 && s[1] == 'x':
		return unquoteHex(s[2], s[3])
	}
	return 0, 0
}

// unquoteHex refuses the digits of printable bytes: Quote never writes these as \x.
func unquoteHex(high, low byte) (c byte, size int) {
	h, l := strings.IndexByte(hexDigits, high), strings.IndexByte(hexDigits, low)
	if h < 0 || l < 0 || isPrintable(byte(h<<4|l)) {
		return 0, 0
	}
	return byte(h<<4 | l), 4
}
