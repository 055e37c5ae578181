package value

import (
	"cmp"
	"slices"
	"strings"

	"semtype/api"
	"semtype/ident"
)

// Compare orders all values, valid or not. It goes on with the last of the Kids in a loop, so that a list may be longer than recursion can be deep.
func Compare(a, b api.Value) int {
	behind := 0
	for {
		if c := compareToLastKid(a, b); c != 0 {
			return c
		}
		// What stands behind the Kids counts only if they are equal, so a difference further inside replaces one further outside.
		if c := compareBehindKids(a, b); c != 0 {
			behind = c
		}
		last := len(a.Kids) - 1
		if last < 0 {
			return behind
		}
		a, b = a.Kids[last], b.Kids[last]
	}
}

// compareToLastKid compares what comes before the last of the Kids.
func compareToLastKid(a, b api.Value) int {
	if c := compareOwn(a, b); c != 0 {
		return c
	}
	if c := compareLists(a.Keys, b.Keys, ident.CompareKeys); c != 0 {
		return c
	}
	if c := cmp.Compare(len(a.Kids), len(b.Kids)); c != 0 || len(a.Kids) == 0 {
		return c
	}
	last := len(a.Kids) - 1
	return slices.CompareFunc(a.Kids[:last], b.Kids[:last], Compare)
}

func compareBehindKids(a, b api.Value) int {
	if c := compareLists(a.Entries, b.Entries, compareEntries); c != 0 {
		return c
	}
	return compareLists(a.Labels, b.Labels, strings.Compare)
}

// compareOwn compares what comes before the lists.
func compareOwn(a, b api.Value) int {
	if c := cmp.Compare(a.Kind, b.Kind); c != 0 {
		return c
	}
	if c := cmp.Compare(a.Int, b.Int); c != 0 {
		return c
	}
	return strings.Compare(a.Text, b.Text)
}

// compareLists puts a shorter list first, whatever its elements are.
func compareLists[T any](a, b []T, compare func(a, b T) int) int {
	if c := cmp.Compare(len(a), len(b)); c != 0 {
		return c
	}
	return slices.CompareFunc(a, b, compare)
}

func compareEntries(a, b api.Entry) int {
	if c := compareLists(a.Args, b.Args, Compare); c != 0 {
		return c
	}
	if a.Fails != b.Fails {
		if a.Fails {
			return -1
		}
		return 1
	}
	return Compare(a.Result, b.Result)
}

// Equal reports whether a and b are the same value.
func Equal(a, b api.Value) bool { return Compare(a, b) == 0 }

// ascending reports whether each element of l is smaller than the next one.
func ascending[T any](l []T, compare func(a, b T) int) bool {
	for i := 1; i < len(l); i++ {
		if compare(l[i-1], l[i]) >= 0 {
			return false
		}
	}
	return true
}
