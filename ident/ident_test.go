package ident_test

import (
	"math"
	"strings"
	"testing"

	"semtype/api"
	"semtype/ident"
)

const (
	lower  = "abcdefghijklmnopqrstuvwxyz"
	upper  = "ABCDEFGHIJKLMNOPQRSTUVWXYZ"
	digits = "0123456789"
)

func atomKey(s string) api.Key { return api.Key{Kind: api.KeyAtom, Text: s} }

func stringKey(s string) api.Key { return api.Key{Kind: api.KeyString, Text: s} }

// P1.1: every byte, alone, in second and in last place.
func TestNamesByteByByte(t *testing.T) {
	for c := 0; c < 256; c++ {
		b := string([]byte{byte(c)})
		isLower, isUpper := strings.Contains(lower, b), strings.Contains(upper, b)
		inner := isLower || strings.Contains(digits+"_", b)
		for _, rest := range []string{"", "a", "a0_z"} {
			if got := ident.IsAtom(b + rest); got != isLower {
				t.Errorf("IsAtom(%q) = %v", b+rest, got)
			}
			if got := ident.IsVariable(b + rest); got != isUpper {
				t.Errorf("IsVariable(%q) = %v", b+rest, got)
			}
			if got := ident.IsAtom("a" + rest + b); got != inner {
				t.Errorf("IsAtom(%q) = %v", "a"+rest+b, got)
			}
			if got := ident.IsVariable("A" + rest + b); got != (inner || isUpper) {
				t.Errorf("IsVariable(%q) = %v", "A"+rest+b, got)
			}
		}
		if ident.IsAtom("a"+b+"a") != inner || ident.IsVariable("A"+b+"a") != (inner || isUpper) {
			t.Errorf("%q in the middle", b)
		}
	}
}

// P1.1: lengths.
func TestNamesLengths(t *testing.T) {
	for n := 0; n <= api.MaxName+3; n++ {
		want := 1 <= n && n <= api.MaxName
		if ident.IsAtom(strings.Repeat("a", n)) != want || ident.IsVariable(strings.Repeat("A", n)) != want {
			t.Errorf("length %d", n)
		}
	}
	for _, s := range []string{"\u00e4", "a\u00e4", "A\u00c4", "\u00c4", "a\x00", "A\xff"} {
		if ident.IsAtom(s) || ident.IsVariable(s) {
			t.Errorf("%q", s)
		}
	}
}

// P1.2: validity.
func TestValidKey(t *testing.T) {
	valid := []api.Key{
		atomKey("a"), atomKey("ok_1"), atomKey(strings.Repeat("a", api.MaxName)),
		stringKey(""), stringKey("A b"), stringKey("\x00\xff"), stringKey(strings.Repeat("a", api.MaxText)),
	}
	for _, k := range valid {
		if !ident.ValidKey(k) {
			t.Errorf("%v is valid", k)
		}
	}
	invalid := []api.Key{
		{}, atomKey("A"), atomKey("_a"), atomKey("a b"), atomKey(strings.Repeat("a", api.MaxName+1)),
		stringKey(strings.Repeat("a", api.MaxText+1)),
		{Kind: 2, Text: "a"}, {Kind: -1, Text: "a"}, {Kind: math.MaxInt}, {Kind: math.MinInt},
	}
	for _, k := range invalid {
		if ident.ValidKey(k) {
			t.Errorf("%v is not valid", k)
		}
	}
}

// P1.2: the order, also of keys that are not valid.
func TestCompareKeys(t *testing.T) {
	ascending := []api.Key{
		{Kind: math.MinInt, Text: "z"}, {Kind: -1}, {Kind: -1, Text: "z"},
		atomKey(""), atomKey("B"), atomKey("a"), atomKey("a0"), atomKey("a_"), atomKey("aa"), atomKey("b"), atomKey(strings.Repeat("b", 99)),
		stringKey(""), stringKey("\x00"), stringKey("a"), stringKey("a\x00"), stringKey("\x7f"), stringKey("\x80"), stringKey("\xff"),
		{Kind: 2}, {Kind: math.MaxInt}, {Kind: math.MaxInt, Text: "a"},
	}
	for i, a := range ascending {
		for k, b := range ascending {
			want := 0
			if i < k {
				want = -1
			} else if i > k {
				want = 1
			}
			if got := ident.CompareKeys(a, b); got != want {
				t.Errorf("CompareKeys(%v, %v) = %d", a, b, got)
			}
		}
	}
}

// P1.4 and the chapter's second example.
func TestFormatKey(t *testing.T) {
	cases := []struct {
		key  api.Key
		text string
	}{
		{atomKey("a"), "a"},
		{atomKey(strings.Repeat("z", api.MaxName)), strings.Repeat("z", api.MaxName)},
		{stringKey("a"), `"a"`},
		{stringKey(""), `""`},
		{stringKey(`a"b`), `"a\"b"`},
		{stringKey("No\n"), `"No\x0a"`},
		{stringKey(strings.Repeat("\xff", api.MaxText)), `"` + strings.Repeat(`\xff`, api.MaxText) + `"`},
	}
	for _, c := range cases {
		if got := ident.FormatKey(c.key); got != c.text {
			t.Errorf("FormatKey(%v) = %s", c.key, got)
		}
		if k, code := ident.ParseKey(c.text); code != api.OK || k != c.key {
			t.Errorf("ParseKey(%s) = %v %v", c.text, k, code)
		}
	}
	for _, k := range []api.Key{{}, atomKey("A"), atomKey("a b"), stringKey(strings.Repeat("a", api.MaxText+1)), {Kind: 2, Text: "a"}, {Kind: -1, Text: "a"}} {
		if got := ident.FormatKey(k); got != "" {
			t.Errorf("FormatKey(%v) = %s", k, got)
		}
	}
}

// P1.4: texts that are the notation of no key.
func TestParseKeyErrors(t *testing.T) {
	texts := []string{
		"", " ", "A", "_a", "1", "a b", " a", "a ", "a\n", `a"`, `'a'`, strings.Repeat("a", api.MaxName+1),
		`"`, `"a`, `"a" `, ` "a"`, `"a"b`, `"a""b"`, `"\x61"`, `"\x0A"`, "\"\n\"", "\"\xff\"",
		`"` + strings.Repeat("a", api.MaxText+1) + `"`, `"` + strings.Repeat(`\x00`, api.MaxText+1) + `"`,
	}
	for _, s := range texts {
		if k, code := ident.ParseKey(s); code != api.ErrSyntax || k != (api.Key{}) {
			t.Errorf("ParseKey(%q) = %v %v", s, k, code)
		}
	}
}
