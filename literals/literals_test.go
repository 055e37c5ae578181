package literals_test

import (
	"fmt"
	"slices"
	"strings"
	"testing"

	"semtype/api"
	"semtype/literals"
)

// fin and cof build sets as they are written, without sorting.
func fin(l ...string) api.Names { return api.Names{List: l} }

func cof(l ...string) api.Names { return api.Names{Cofinite: true, List: l} }

// same compares sets field by field; nil and empty lists are the same (R3).
func same(a, b api.Names) bool { return a.Cofinite == b.Cofinite && slices.Equal(a.List, b.List) }

// show writes a set with quotes, so that every byte can be seen.
func show(s api.Names) string { return fmt.Sprintf("{%v %q}", s.Cofinite, s.List) }

// P3.1: which lists are valid; the kind of the set does not matter.
func TestValid(t *testing.T) {
	valid := [][]string{
		nil, {}, {""}, {"a"}, {"a", "b"}, {"", "a"}, {"", "\x00"}, {"\x00", "\x00\x00", "\x01"},
		{"B", "a"}, {"Z", "_", "a"}, {"a", "aa", "ab", "b"}, {"10", "9"}, {"a", "z", "\x7f", "\x80", "\xff"},
		{"No atom", "a b"}, {strings.Repeat("x", 99), strings.Repeat("x", 100)},
	}
	for _, l := range valid {
		if !literals.Valid(fin(l...)) || !literals.Valid(cof(l...)) {
			t.Errorf("%q is valid", l)
		}
	}
	invalid := [][]string{
		{"b", "a"}, {"a", "a"}, {"", ""}, {"a", ""}, {"a", "b", "b"}, {"a", "a", "b"}, {"a", "b", "a"}, {"a", "c", "b"},
		{"b", "a", "c"}, {"a", "B"}, {"9", "10"}, {"b", "aa"}, {"\xff", "a"}, {"\x00\x00", "\x00"}, {"a", "b", "c", "c", "d"},
	}
	for _, l := range invalid {
		if literals.Valid(fin(l...)) || literals.Valid(cof(l...)) {
			t.Errorf("%q is not valid", l)
		}
	}
}

// P3.1: sorted bytewise, without duplicates.
func TestFiniteAndCofinite(t *testing.T) {
	cases := []struct{ list, want []string }{
		{nil, nil},
		{[]string{}, nil},
		{[]string{""}, []string{""}},
		{[]string{"", ""}, []string{""}},
		{[]string{"a"}, []string{"a"}},
		{[]string{"a", "a", "a"}, []string{"a"}},
		{[]string{"b", "a"}, []string{"a", "b"}},
		{[]string{"b", "a", "b", "a", "", "c", "b"}, []string{"", "a", "b", "c"}},
		{[]string{"b", "aa", "a", "B", "\xff", "\x00", "z"}, []string{"\x00", "B", "a", "aa", "b", "z", "\xff"}},
		{[]string{"9", "10", "a b", "No"}, []string{"10", "9", "No", "a b"}},
		{[]string{strings.Repeat("x", 100), strings.Repeat("x", 99)}, []string{strings.Repeat("x", 99), strings.Repeat("x", 100)}},
	}
	for _, c := range cases {
		if got := literals.Finite(c.list...); !same(got, fin(c.want...)) {
			t.Errorf("Finite(%q) = %s", c.list, show(got))
		}
		if got := literals.Cofinite(c.list...); !same(got, cof(c.want...)) {
			t.Errorf("Cofinite(%q) = %s", c.list, show(got))
		}
	}
	if got := literals.Finite(); !same(got, fin()) {
		t.Errorf("Finite() = %s", show(got))
	}
	if got := literals.Cofinite(); !same(got, cof()) {
		t.Errorf("Cofinite() = %s", show(got))
	}
}

// P3.2: finite and cofinite sets in each place, with the chapter's example.
func TestUnion(t *testing.T) {
	cases := []struct{ a, b, want api.Names }{
		{fin("a"), cof("a", "b"), cof("b")}, {cof("a", "b"), fin("a"), cof("b")},
		{fin("a", "b"), cof("a", "b"), cof()}, {fin("c"), cof("a", "b"), cof("a", "b")}, {cof("b", "a", "b"), fin(), cof("a", "b")},
		{fin("b", "a"), fin("c", "a", "c"), fin("a", "b", "c")}, {fin(), fin(), fin()}, {fin(""), fin(), fin("")}, {fin(), fin("b", "a", "a"), fin("a", "b")},
		{cof("a", "b"), cof("b", "c"), cof("b")}, {cof("c", "a", "a"), cof("b", "c", "a"), cof("a", "c")}, {cof("a"), cof("b"), cof()},
		{cof(), cof("a"), cof()}, {cof(""), cof(""), cof("")}, {cof(), fin("a"), cof()}, {fin(""), cof(), cof()}, {cof(""), fin(""), cof()},
	}
	for _, c := range cases {
		if got := literals.Union(c.a, c.b); !same(got, c.want) {
			t.Errorf("Union(%s, %s) = %s", show(c.a), show(c.b), show(got))
		}
	}
}

// P3.2: finite and cofinite sets in each place.
func TestIntersect(t *testing.T) {
	cases := []struct{ a, b, want api.Names }{
		{fin("a", "c"), cof("a", "b"), fin("c")}, {cof("a", "b"), fin("a", "c"), fin("c")},
		{fin("a", "b"), cof("b", "a"), fin()}, {fin("b", "a", "b"), cof(), fin("a", "b")}, {cof(), fin("b", "a", "b"), fin("a", "b")},
		{fin("b", "a"), fin("c", "b", "b"), fin("b")}, {fin("a"), fin("b"), fin()}, {fin(), fin("a"), fin()}, {fin(""), fin("", "a"), fin("")},
		{cof("a", "b"), cof("c", "b"), cof("a", "b", "c")}, {cof("b", "b", "a"), cof(), cof("a", "b")}, {cof(), cof(), cof()},
		{cof(""), cof("a"), cof("", "a")}, {cof(""), fin(""), fin()}, {fin(), cof(), fin()}, {cof("a"), fin(), fin()},
	}
	for _, c := range cases {
		if got := literals.Intersect(c.a, c.b); !same(got, c.want) {
			t.Errorf("Intersect(%s, %s) = %s", show(c.a), show(c.b), show(got))
		}
	}
}

// P3.2: the other kind with the same strings.
func TestComplement(t *testing.T) {
	cases := []struct{ a, want api.Names }{
		{fin(), cof()}, {cof(), fin()}, {fin(""), cof("")}, {cof(""), fin("")},
		{fin("a", "b"), cof("a", "b")}, {cof("a", "b"), fin("a", "b")},
		{fin("b", "a", "b"), cof("a", "b")}, {cof("b", "a", "b"), fin("a", "b")},
	}
	for _, c := range cases {
		if got := literals.Complement(c.a); !same(got, c.want) {
			t.Errorf("Complement(%s) = %s", show(c.a), show(got))
		}
	}
}

// P3.2, also for lists that are not ascending.
func TestContains(t *testing.T) {
	long := strings.Repeat("x", 200)
	cases := []struct {
		list   []string
		name   string
		listed bool
	}{
		{nil, "", false}, {nil, "a", false}, {[]string{""}, "", true}, {[]string{""}, "\x00", false}, {[]string{"a"}, "", false},
		{[]string{"a", "b"}, "a", true}, {[]string{"a", "b"}, "b", true}, {[]string{"a", "b"}, "c", false}, {[]string{"a", "b"}, "A", false},
		{[]string{"c", "a", "b"}, "a", true}, {[]string{"c", "a", "b"}, "b", true}, {[]string{"c", "a", "b"}, "c", true},
		{[]string{"c", "c", "a"}, "a", true}, {[]string{"c", "c", "a"}, "b", false}, {[]string{"ab"}, "a", false}, {[]string{"a"}, "ab", false},
		{[]string{long}, long, true}, {[]string{long}, long[1:], false}, {[]string{"\xff", "No atom"}, "No atom", true},
	}
	for _, c := range cases {
		if literals.Contains(fin(c.list...), c.name) != c.listed || literals.Contains(cof(c.list...), c.name) == c.listed {
			t.Errorf("%q with the strings %q", c.name, c.list)
		}
	}
}

// P3.2: a cofinite set is never a subset of a finite one.
func TestIsSubset(t *testing.T) {
	cases := []struct {
		a, b api.Names
		want bool
	}{
		{fin(), fin(), true}, {fin(), fin("a"), true}, {fin("a"), fin(), false}, {fin(""), fin(), false}, {fin(""), fin(""), true},
		{fin("a"), fin("b", "a"), true}, {fin("b", "a", "b"), fin("c", "a", "b"), true}, {fin("a", "c"), fin("a", "b"), false}, {fin("b", "a"), fin("b"), false},
		{fin("a"), cof("b"), true}, {fin("a"), cof("a"), false}, {fin("c", "a"), cof("b", "a"), false}, {fin(), cof("a"), true}, {fin("", "a"), cof(), true},
		{cof(), fin(), false}, {cof("a"), fin("a"), false}, {cof("a"), fin("b"), false}, {cof(), fin("a", "b"), false}, {cof("a", "b"), fin(), false},
		{cof(), cof(), true}, {cof("a"), cof(), true}, {cof(), cof("a"), false}, {cof("b", "a"), cof("a"), true}, {cof("a"), cof("a", "b"), false},
		{cof("b", "a", "b"), cof("a", "a", "b"), true}, {cof("a"), cof("b"), false}, {cof(""), cof(""), true},
	}
	for _, c := range cases {
		if got := literals.IsSubset(c.a, c.b); got != c.want {
			t.Errorf("IsSubset(%s, %s) = %v", show(c.a), show(c.b), got)
		}
	}
}
