package literals_test

import (
	"slices"
	"strings"
	"testing"

	"semtype/api"
	"semtype/ident"
	"semtype/literals"
)

var (
	longAtom = strings.Repeat("z", api.MaxName)
	longText = strings.Repeat("\xff", api.MaxText)
)

// P3.3: the first atom name or text of a set, with the chapter's example.
func TestFirst(t *testing.T) {
	cases := []struct {
		s    api.Names
		kind int
		want string
	}{
		{fin("a"), api.KeyAtom, "a"}, {fin("b", "c", "a"), api.KeyAtom, "a"}, {fin("aa", "b"), api.KeyAtom, "b"}, {fin("b", "aa"), api.KeyAtom, "b"},
		{fin("ab", "aa", "a_", "a0"), api.KeyAtom, "a0"}, {fin("c", "b", "b", "c"), api.KeyAtom, "b"},
		{fin("", "A", "0", "_", "a b", "\xe4", "zz"), api.KeyAtom, "zz"}, {fin(longAtom+"z", longAtom), api.KeyAtom, longAtom},
		{cof(), api.KeyAtom, "a"}, {cof(""), api.KeyAtom, "a"}, {cof("a"), api.KeyAtom, "b"}, {cof("c", "a", "a"), api.KeyAtom, "b"},
		{cof("b", "A", "0"), api.KeyAtom, "a"}, {cof(strings.Split("zyxwvutsrqponmlkjihgfedcba", "")...), api.KeyAtom, "a0"},
		{fin(""), api.KeyString, ""}, {fin("a", ""), api.KeyString, ""}, {fin("aa", "b", "ab"), api.KeyString, "b"}, {fin("\xff", "\x00\x00"), api.KeyString, "\xff"},
		{fin("b", "B", "_"), api.KeyString, "B"}, {fin("\x80", "\x7f"), api.KeyString, "\x7f"}, {fin("b", "b"), api.KeyString, "b"},
		{fin(longText+"a", longText), api.KeyString, longText}, {fin(strings.Repeat("a", api.MaxText+1), "b c"), api.KeyString, "b c"},
		{cof(), api.KeyString, ""}, {cof(""), api.KeyString, "\x00"}, {cof("a", "b"), api.KeyString, ""}, {cof("", ""), api.KeyString, "\x00"},
		{cof("\x01", "", "\x00"), api.KeyString, "\x02"}, {cof("\x00", "\x00\x00"), api.KeyString, ""},
	}
	for _, c := range cases {
		if got, ok := literals.First(c.s, c.kind); got != c.want || !ok {
			t.Errorf("First(%s, %d) = %q, %v", show(c.s), c.kind, got, ok)
		}
	}
}

// P3.3: no member that is a name, and kinds that have no names.
func TestFirstOfNone(t *testing.T) {
	cases := []struct {
		s    api.Names
		kind int
	}{
		{fin(), api.KeyAtom}, {fin(""), api.KeyAtom}, {fin("A", "0", "_", "a b", "\xe4"), api.KeyAtom}, {fin(longAtom + "z"), api.KeyAtom},
		{fin(), api.KeyString}, {fin(longText + "a"), api.KeyString}, {fin(longText+"b", longText+"a"), api.KeyString},
		{fin("a"), 2}, {fin("", "a"), -1}, {cof(), 2}, {cof(), -1}, {cof("a"), 1 << 40}, {fin("a"), -1 << 63},
	}
	for _, c := range cases {
		if got, ok := literals.First(c.s, c.kind); got != "" || ok {
			t.Errorf("First(%s, %d) = %q, %v", show(c.s), c.kind, got, ok)
		}
	}
}

// textsInOrder returns the strings of at most two bytes, by length and then bytewise.
func textsInOrder() []string {
	l := []string{""}
	for a := range 256 {
		l = append(l, string([]byte{byte(a)}))
	}
	for a := range 256 {
		for b := range 256 {
			l = append(l, string([]byte{byte(a), byte(b)}))
		}
	}
	return l
}

// P3.3: the order of the names, seen from what remains when the first ones are taken away.
func TestFirstOrder(t *testing.T) {
	texts := textsInOrder()
	atoms := slices.DeleteFunc(slices.Clone(texts), func(s string) bool { return !ident.IsAtom(s) })
	checkFirstOrder(t, api.KeyAtom, append(atoms, "a00"), []int{0, 1, 25, 26, 36, 37, 38, 62, 63, 500, len(atoms) - 1, len(atoms)})
	checkFirstOrder(t, api.KeyString, append(texts, "\x00\x00\x00"), []int{0, 1, 2, 128, 255, 256, 257, 258, 512, 513, len(texts) - 1, len(texts)})
}

func checkFirstOrder(t *testing.T, kind int, names []string, places []int) {
	t.Helper()
	for _, i := range places {
		before, from := slices.Clone(names[:i]), slices.Clone(names[i:])
		slices.Reverse(before)
		slices.Reverse(from)
		for _, s := range []api.Names{cof(before...), fin(from...)} {
			if got, ok := literals.First(s, kind); got != names[i] || !ok {
				t.Errorf("kind %d, place %d, cofinite %v: %q, %v, not %q", kind, i, s.Cofinite, got, ok, names[i])
			}
		}
	}
}
