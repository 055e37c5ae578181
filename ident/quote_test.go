package ident_test

import (
	"fmt"
	"strings"
	"testing"

	"semtype/api"
	"semtype/ident"
)

func wantQuoted(c byte) string {
	switch {
	case c == '"':
		return `\"`
	case c == '\\':
		return `\\`
	case c >= 0x20 && c <= 0x7e:
		return string(rune(c))
	}
	return fmt.Sprintf(`\x%02x`, c)
}

// P1.3: every byte and every pair of bytes.
func TestQuoteByteByByte(t *testing.T) {
	check := func(s, want string) {
		if got := ident.Quote(s); got != want {
			t.Errorf("Quote(%q) = %s", s, got)
		}
		if got, code := ident.Unquote(want); code != api.OK || got != s {
			t.Errorf("Unquote(%s) = %q %v", want, got, code)
		}
	}
	check("", `""`)
	for a := 0; a < 256; a++ {
		check(string([]byte{byte(a)}), `"`+wantQuoted(byte(a))+`"`)
		for b := 0; b < 256; b++ {
			check(string([]byte{byte(a), byte(b)}), `"`+wantQuoted(byte(a))+wantQuoted(byte(b))+`"`)
		}
	}
}

// P1.3: Unquote accepts exactly the results of Quote.
func TestUnquoteIsExact(t *testing.T) {
	const letters = "\"\\x0fA7 \n\xff"
	var visit func(s string)
	visit = func(s string) {
		for _, whole := range []string{s, `"` + s, s + `"`, `"` + s + `"`} {
			got, code := ident.Unquote(whole)
			if code == api.OK && ident.Quote(got) != whole {
				t.Errorf("Unquote(%q) = %q", whole, got)
			}
			if code != api.OK && (code != api.ErrSyntax || got != "") {
				t.Errorf("Unquote(%q) = %q %v", whole, got, code)
			}
		}
		if len(s) < 5 {
			for i := 0; i < len(letters); i++ {
				visit(s + letters[i:i+1])
			}
		}
	}
	visit("")
}

// P1.3: \x stands for each byte that has no shorter form, in lower-case digits.
func TestUnquoteHex(t *testing.T) {
	for c := 0; c < 256; c++ {
		printable := c >= 0x20 && c <= 0x7e
		s := fmt.Sprintf(`"\x%02x"`, c)
		got, code := ident.Unquote(s)
		if printable && (code != api.ErrSyntax || got != "") || !printable && (code != api.OK || got != string([]byte{byte(c)})) {
			t.Errorf("Unquote(%s) = %q %v", s, got, code)
		}
		if big := fmt.Sprintf(`"\x%02X"`, c); big != s {
			if got, code := ident.Unquote(big); code != api.ErrSyntax || got != "" {
				t.Errorf("Unquote(%s) = %q %v", big, got, code)
			}
		}
	}
}

// P1.3: texts that are the Quote of no string.
func TestUnquoteErrors(t *testing.T) {
	texts := []string{
		``, `"`, `a`, `"a`, `a"`, `a""`, `""a`, `" "a"`, `"\"`, `"\\\"`, `"a\"`, `"\a"`, `"\n"`, `"\X0a"`,
		`"\x"`, `"\x0"`, `"\x0g"`, `"\xg0"`, `"\x 0"`, `"\x0\"`, `"\x22"`, `"\x5c"`, `'a'`, "\"\x00\"", "\"\x1f\"", "\"\x7f\"", "\"\u00e4\"",
	}
	for _, s := range texts {
		if got, code := ident.Unquote(s); code != api.ErrSyntax || got != "" {
			t.Errorf("Unquote(%q) = %q %v", s, got, code)
		}
	}
}

// P1.3 names no limit of length.
func TestQuoteLong(t *testing.T) {
	s := strings.Repeat("a\x00", 1<<20)
	want := `"` + strings.Repeat(`a\x00`, 1<<20) + `"`
	if ident.Quote(s) != want {
		t.Error("Quote of a long string")
	}
	if got, code := ident.Unquote(want); code != api.OK || got != s {
		t.Error("Unquote of a long string", code)
	}
}
