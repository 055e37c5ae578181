package literals_test

import (
	"slices"
	"testing"

	"semtype/api"
	"semtype/ident"
	"semtype/literals"
)

// samples are the strings of the lists below, by length and then bytewise, and last one that no list has: it stands for all others.
var samples = []string{"", "A", "b", "ab", "a name that is too long"}

// shortSets returns all sets with lists of at most three samples, in any order and with duplicates.
func shortSets() []api.Names {
	lists := [][]string{nil}
	for begin, size := 0, 0; size < 3; size++ {
		end := len(lists)
		for _, l := range lists[begin:end] {
			for _, name := range samples[:len(samples)-1] {
				lists = append(lists, append(slices.Clone(l), name))
			}
		}
		begin = end
	}
	var sets []api.Names
	for _, l := range lists {
		sets = append(sets, fin(l...), cof(l...))
	}
	return sets
}

// model says for each sample whether it is in the set.
func model(s api.Names) []bool {
	l := make([]bool, len(samples))
	for i, name := range samples {
		l[i] = slices.Contains(s.List, name) != s.Cofinite
	}
	return l
}

// isValid follows the chapter's words.
func isValid(s api.Names) bool {
	for i := range s.List {
		for k := range i {
			if !(s.List[k] < s.List[i]) {
				return false
			}
		}
	}
	return true
}

func checkSet(t *testing.T, name string, got api.Names, want []bool) {
	t.Helper()
	if !isValid(got) || !slices.Equal(model(got), want) {
		t.Fatalf("%s gives %s", name, show(got))
	}
}

// P3.1 to P3.3: each set with a short list against the model.
func TestOneSetByModel(t *testing.T) {
	for _, s := range shortSets() {
		has := model(s)
		if got := literals.Valid(s); got != isValid(s) {
			t.Fatalf("Valid(%s) = %v", show(s), got)
		}
		if s.Cofinite {
			checkSet(t, "Cofinite", literals.Cofinite(s.List...), has)
		} else {
			checkSet(t, "Finite", literals.Finite(s.List...), has)
		}
		missing := make([]bool, len(has))
		for i, name := range samples {
			missing[i] = !has[i]
			if literals.Contains(s, name) != has[i] {
				t.Fatalf("Contains(%s, %q) = %v", show(s), name, !has[i])
			}
		}
		checkSet(t, "Complement", literals.Complement(s), missing)
		checkFirst(t, s, has)
	}
}

func checkFirst(t *testing.T, s api.Names, has []bool) {
	t.Helper()
	if s.Cofinite {
		return
	}
	for _, kind := range []int{api.KeyAtom, api.KeyString} {
		want, found := "", false
		for i, name := range samples {
			if !found && has[i] && ident.ValidKey(api.Key{Kind: kind, Text: name}) {
				want, found = name, true
			}
		}
		if got, ok := literals.First(s, kind); got != want || ok != found {
			t.Fatalf("First(%s, %d) = %q, %v", show(s), kind, got, ok)
		}
	}
}

// P3.2: all pairs of these sets against the model.
func TestTwoSetsByModel(t *testing.T) {
	sets := shortSets()
	for _, a := range sets {
		for _, b := range sets {
			checkTwoSets(t, a, b)
		}
	}
}

func checkTwoSets(t *testing.T, a, b api.Names) {
	t.Helper()
	inA, inB := model(a), model(b)
	either, both, subset := make([]bool, len(samples)), make([]bool, len(samples)), true
	for i := range samples {
		either[i], both[i] = inA[i] || inB[i], inA[i] && inB[i]
		subset = subset && (!inA[i] || inB[i])
	}
	checkSet(t, "Union", literals.Union(a, b), either)
	checkSet(t, "Intersect", literals.Intersect(a, b), both)
	if got := literals.IsSubset(a, b); got != subset {
		t.Fatalf("IsSubset(%s, %s) = %v", show(a), show(b), got)
	}
}

// P3.1: all functions but Valid use the set of the strings only, and so do not see their order and number.
func TestOrderAndNumberDoNotMatter(t *testing.T) {
	plain := []api.Names{fin("", "a", "b"), cof("", "a", "b"), fin("b"), cof("b")}
	mixed := []api.Names{fin("b", "", "a", "", "b"), cof("a", "b", "b", ""), fin("b", "b"), cof("b", "b", "b")}
	for i, a := range plain {
		for k, b := range plain {
			if !same(literals.Union(a, b), literals.Union(mixed[i], mixed[k])) || !same(literals.Intersect(a, b), literals.Intersect(mixed[i], mixed[k])) {
				t.Errorf("%s and %s", show(a), show(b))
			}
			if literals.IsSubset(a, b) != literals.IsSubset(mixed[i], mixed[k]) {
				t.Errorf("IsSubset of %s and %s", show(a), show(b))
			}
		}
	}
}

// R2: arguments are not changed, and writing into a result changes neither an argument nor a later result.
func TestMemory(t *testing.T) {
	lists := [][]string{nil, {"a"}, {"a", "b", "c"}, {"c", "b", "c", "a"}, {"", ""}}
	for _, a := range lists {
		for _, b := range lists {
			for _, cofinite := range []bool{false, true} {
				checkMemory(t, a, api.Names{Cofinite: cofinite, List: b})
			}
		}
	}
}

func checkMemory(t *testing.T, a []string, other api.Names) {
	t.Helper()
	// Room behind the elements shows an append into the argument.
	roomy := append(make([]string, 0, len(a)+9), a...)
	room := roomy[:cap(roomy)]
	calls := []func() api.Names{
		func() api.Names { return literals.Finite(roomy...) },
		func() api.Names { return literals.Cofinite(roomy...) },
	}
	for _, s := range []api.Names{fin(roomy...), cof(roomy...)} {
		calls = append(calls,
			func() api.Names { return literals.Union(s, other) },
			func() api.Names { return literals.Union(other, s) },
			func() api.Names { return literals.Intersect(s, other) },
			func() api.Names { return literals.Intersect(other, s) },
			func() api.Names { return literals.Complement(s) },
			func() api.Names { literals.Valid(s); literals.Contains(s, "b"); return api.Names{} },
			func() api.Names { literals.IsSubset(s, other); literals.IsSubset(other, s); return api.Names{} },
			func() api.Names { literals.First(s, api.KeyAtom); literals.First(s, api.KeyString); return api.Names{} },
		)
	}
	before, otherBefore := slices.Clone(room), slices.Clone(other.List)
	for i, call := range calls {
		first := call()
		kept := api.Names{Cofinite: first.Cofinite, List: slices.Clone(first.List)}
		whole := first.List[:cap(first.List)]
		for k := range whole {
			whole[k] = "written"
		}
		if !slices.Equal(room, before) || !slices.Equal(other.List, otherBefore) {
			t.Fatalf("call %d changes %q or %q", i, a, otherBefore)
		}
		if second := call(); !same(second, kept) {
			t.Fatalf("call %d: %s, then %s", i, show(kept), show(second))
		}
	}
}
