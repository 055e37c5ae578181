package value

import (
	"slices"

	"semtype/api"
)

// WithLabels returns v with these labels at its root instead of its own.
func WithLabels(v api.Value, names ...string) api.Value {
	v = clone(v)
	v.Labels = slices.Compact(slices.Sorted(slices.Values(names)))
	return v
}

// Unlabel returns v without any labels.
func Unlabel(v api.Value) api.Value {
	v.Labels = nil
	v.Keys = slices.Clone(v.Keys)
	v.Kids = each(v.Kids, Unlabel)
	v.Entries = eachOnce(each(v.Entries, unlabelEntry))
	return v
}

func unlabelEntry(e api.Entry) api.Entry {
	return api.Entry{Args: each(e.Args, Unlabel), Fails: e.Fails, Result: Unlabel(e.Result)}
}

// clone returns v in memory that belongs to nobody else.
func clone(v api.Value) api.Value {
	v.Labels = slices.Clone(v.Labels)
	v.Keys = slices.Clone(v.Keys)
	v.Kids = each(v.Kids, clone)
	v.Entries = each(v.Entries, cloneEntry)
	return v
}

func cloneEntry(e api.Entry) api.Entry {
	return api.Entry{Args: each(e.Args, clone), Fails: e.Fails, Result: clone(e.Result)}
}

// each returns the results of change for l, in new memory.
func each[T any](l []T, change func(T) T) []T {
	if len(l) == 0 {
		return nil
	}
	changed := make([]T, len(l))
	for i, x := range l {
		changed[i] = change(x)
	}
	return changed
}
