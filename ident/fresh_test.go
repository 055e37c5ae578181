package ident_test

import (
	"slices"
	"strings"
	"testing"

	"semtype/api"
	"semtype/ident"
)

// shortTexts returns all strings of at most two of these bytes, by length and then bytewise.
func shortTexts(letters string) []string {
	sorted := []byte(letters)
	slices.Sort(sorted)
	l := []string{""}
	for _, a := range sorted {
		l = append(l, string([]byte{a}))
	}
	for _, a := range sorted {
		for _, b := range sorted {
			l = append(l, string([]byte{a, b}))
		}
	}
	return l
}

func shortAtoms() []string {
	return slices.DeleteFunc(shortTexts(lower+digits+"_"), func(s string) bool {
		return s == "" || !strings.Contains(lower, s[:1])
	})
}

func allBytes() string {
	var l []byte
	for c := 0; c < 256; c++ {
		l = append(l, byte(c))
	}
	return string(l)
}

// P1.5: the names in their order, over two lengths.
func TestFreshAtomOrder(t *testing.T) {
	atoms := shortAtoms()
	if len(atoms) != 26+26*37 {
		t.Fatal(len(atoms))
	}
	for i, want := range append(atoms, "a00") {
		used := slices.Clone(atoms[:i])
		slices.Reverse(used)
		if got := ident.FreshAtom(used...); got != want {
			t.Fatalf("after %d names: %s, not %s", i, got, want)
		}
		if got := ident.FreshKey(api.KeyAtom, keysOf(api.KeyAtom, used)...); got != atomKey(want) {
			t.Fatalf("after %d keys: %v, not %s", i, got, want)
		}
	}
}

func keysOf(kind int, texts []string) []api.Key {
	var l []api.Key
	for _, s := range texts {
		l = append(l, api.Key{Kind: kind, Text: s})
	}
	return l
}

// P1.5: gaps, repetitions, and strings that are no names; with the chapter's first example.
func TestFreshAtomCases(t *testing.T) {
	letters := strings.Split(lower, "")
	cases := []struct {
		used []string
		want string
	}{
		{nil, "a"},
		{[]string{}, "a"},
		{[]string{"a", "c"}, "b"},
		{[]string{"b", "c"}, "a"},
		{[]string{"a", "a", "a"}, "b"},
		{[]string{"", "A", "0", "_", "a b", strings.Repeat("a", 99)}, "a"},
		{[]string{"aa", "a0"}, "a"},
		{letters, "a0"},
		{letters[:25], "z"},
		{append([]string{"a0", "a2"}, letters...), "a1"},
	}
	for _, c := range cases {
		if got := ident.FreshAtom(c.used...); got != c.want {
			t.Errorf("FreshAtom(%q) = %s", c.used, got)
		}
	}
}

// P1.5: string keys have any bytes.
func TestFreshStringKeyOrder(t *testing.T) {
	texts := shortTexts(allBytes())
	used := keysOf(api.KeyString, texts)
	for _, i := range []int{0, 1, 2, 11, 127, 128, 129, 255, 256, 257, 258, 512, 513, 514, len(texts) - 1} {
		if got := ident.FreshKey(api.KeyString, used[:i]...); got != used[i] {
			t.Errorf("after %d keys: %q", i, got.Text)
		}
	}
	if got := ident.FreshKey(api.KeyString, used...); got != stringKey("\x00\x00\x00") {
		t.Errorf("after all: %q", got.Text)
	}
}

// P1.5: keys of other kinds do not count, and other kinds have no keys.
func TestFreshKeyKinds(t *testing.T) {
	other := []api.Key{{Kind: 2}, {Kind: 2, Text: "a"}, {Kind: -1, Text: "a"}, {Kind: -1}}
	cases := []struct {
		kind int
		used []api.Key
		want api.Key
	}{
		{api.KeyAtom, nil, atomKey("a")},
		{api.KeyAtom, append(other, stringKey("a")), atomKey("a")},
		{api.KeyAtom, []api.Key{atomKey("b"), atomKey("a"), stringKey("c")}, atomKey("c")},
		{api.KeyAtom, []api.Key{atomKey(""), atomKey("A")}, atomKey("a")},
		{api.KeyString, nil, stringKey("")},
		{api.KeyString, append(other, atomKey("")), stringKey("")},
		{api.KeyString, []api.Key{stringKey("")}, stringKey("\x00")},
		{api.KeyString, []api.Key{stringKey("\x00"), stringKey("")}, stringKey("\x01")},
		{api.KeyString, []api.Key{stringKey("\x00")}, stringKey("")},
		{2, nil, api.Key{}},
		{2, other, api.Key{}},
		{-1, other, api.Key{}},
	}
	for _, c := range cases {
		if got := ident.FreshKey(c.kind, c.used...); got != c.want {
			t.Errorf("FreshKey(%d, %v) = %v", c.kind, c.used, got)
		}
	}
}

// R2: the arguments are not changed; R5: a second call gives the same.
func TestFreshLeavesArguments(t *testing.T) {
	names, keys := []string{"c", "a", "a", ""}, []api.Key{stringKey("b"), atomKey("a"), {Kind: 7}}
	names2, keys2 := slices.Clone(names), slices.Clone(keys)
	for range 2 {
		if ident.FreshAtom(names...) != "b" || ident.FreshKey(api.KeyAtom, keys...) != atomKey("b") {
			t.Error("results")
		}
		if !slices.Equal(names, names2) || !slices.Equal(keys, keys2) {
			t.Error("arguments have changed")
		}
	}
}
