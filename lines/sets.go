package lines

import (
	"cmp"
	"slices"
)

// The sets of this file are strictly ascending slices. No function changes one, so they may share memory.

// ascending returns the set of the elements of l.
func ascending[T cmp.Ordered](l []T) []T {
	sorted := slices.Clone(l)
	slices.Sort(sorted)
	return slices.Compact(sorted)
}

func union[T cmp.Ordered](a, b []T) []T {
	if len(a) == 0 {
		return b
	}
	if len(b) == 0 {
		return a
	}
	return ascending(slices.Concat(a, b))
}

func contains[T cmp.Ordered](set []T, x T) bool {
	_, found := slices.BinarySearch(set, x)
	return found
}

// isSubset looks for each element of a behind the one before it.
func isSubset[T cmp.Ordered](a, b []T) bool {
	for _, x := range a {
		i, found := slices.BinarySearch(b, x)
		if !found {
			return false
		}
		b = b[i+1:]
	}
	return true
}
