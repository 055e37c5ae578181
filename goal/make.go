package goal

import (
	"slices"

	"semtype/api"
	"semtype/value"
)

// Make returns the value that a describes, with these members of its subgoals.
func Make(a api.Alternative, members ...api.Value) (api.Value, api.Code) {
	if len(members) != len(a.Subgoals) {
		return api.Value{}, api.ErrInvalid
	}
	v, code := construct(a, members)
	v.Labels = slices.Clone(a.Leaf.Labels)
	if code != api.OK || value.Validate(v) != api.OK {
		return api.Value{}, api.ErrInvalid
	}
	return v, api.OK
}

// construct returns the value without its labels. It leaves to value.Validate what makes values valid.
func construct(a api.Alternative, members []api.Value) (api.Value, api.Code) {
	switch a.Leaf.Kind {
	case api.VTuple, api.VCons:
		return api.Value{Kind: a.Leaf.Kind, Kids: value.Tuple(members...).Kids}, api.OK
	case api.VMap:
		return value.Map(a.Keys, members)
	case api.VFun:
		return function(a, members)
	}
	return value.WithLabels(a.Leaf), api.OK
}

func function(a api.Alternative, members []api.Value) (api.Value, api.Code) {
	if a.Leaf.Int < 0 || a.Leaf.Int > api.MaxArity {
		return api.Value{}, api.ErrInvalid
	}
	entries := make([]api.Entry, len(a.Forms))
	for i, f := range a.Forms {
		var code api.Code
		if entries[i], code = entry(f, members); code != api.OK {
			return api.Value{}, code
		}
	}
	return value.Function(int(a.Leaf.Int), entries...)
}

// entry returns the entry of the form.
func entry(f api.Form, members []api.Value) (api.Entry, api.Code) {
	var l []api.Value
	for _, n := range indicesOf(f) {
		if n < 0 || n >= len(members) {
			return api.Entry{}, api.ErrInvalid
		}
		l = append(l, members[n])
	}
	if f.Fails {
		return api.Entry{Args: l, Fails: true}, api.OK
	}
	last := len(l) - 1
	return api.Entry{Args: l[:last], Result: l[last]}, api.OK
}

// indicesOf returns the indices for the Args and, unless the form fails, for the Result of an entry.
func indicesOf(f api.Form) []int {
	if f.Fails {
		return f.Args
	}
	return append(slices.Clone(f.Args), f.Result)
}
