package value

import (
	"strings"

	"semtype/api"
	"semtype/ident"
)

// Validate returns ErrInvalid if some node of v is not valid.
func Validate(v api.Value) api.Code {
	if !isValid(v) {
		return api.ErrInvalid
	}
	return api.OK
}

// isValid goes on with the last of the Kids in a loop, so that a list may be longer than recursion can be deep.
func isValid(v api.Value) bool {
	for isValidNode(v) && all(v.Entries, hasValidParts) {
		last := len(v.Kids) - 1
		if last < 0 {
			return true
		}
		if !all(v.Kids[:last], isValid) {
			return false
		}
		v = v.Kids[last]
	}
	return false
}

// hasValidParts leaves out the Result of an entry that fails, which is no node.
func hasValidParts(e api.Entry) bool {
	return all(e.Args, isValid) && (e.Fails || isValid(e.Result))
}

// isValidNode looks at the root of v only.
func isValidNode(v api.Value) bool {
	return usesItsFields(v) && all(v.Labels, ident.IsVariable) && ascending(v.Labels, strings.Compare) && hasItsForm(v)
}

// usesItsFields reports whether the fields that the kind does not use are zero or empty.
func usesItsFields(v api.Value) bool {
	switch v.Kind {
	case api.VInt, api.VPid:
		v.Int = 0
	case api.VString, api.VAtom:
		v.Text = ""
	case api.VTuple, api.VCons:
		v.Kids = nil
	case api.VMap:
		v.Keys, v.Kids = nil, nil
	case api.VFun:
		v.Int, v.Entries = 0, nil
	}
	return v.Int == 0 && v.Text == "" && len(v.Kids) == 0 && len(v.Keys) == 0 && len(v.Entries) == 0
}

// hasItsForm reports whether v has one of the kinds and meets the condition of its kind.
func hasItsForm(v api.Value) bool {
	switch v.Kind {
	case api.VInt, api.VNil:
		return true
	case api.VString:
		return len(v.Text) <= api.MaxText
	case api.VAtom:
		return ident.IsAtom(v.Text)
	case api.VPid:
		return v.Int >= 0
	case api.VTuple:
		return len(v.Kids) <= api.MaxArity
	case api.VCons:
		return len(v.Kids) == 2 && (v.Kids[1].Kind == api.VNil || v.Kids[1].Kind == api.VCons)
	case api.VMap:
		return len(v.Keys) == len(v.Kids) && all(v.Keys, ident.ValidKey) && ascending(v.Keys, ident.CompareKeys)
	case api.VFun:
		return validArity(v.Int) && all(v.Entries, func(e api.Entry) bool { return fits(e, v.Int) }) && ascending(v.Entries, compareEntries)
	}
	return false
}

func validArity(arity int64) bool { return 0 <= arity && arity <= api.MaxArity }

// fits reports whether e may be an entry of a function of this arity, whatever its values are.
func fits(e api.Entry, arity int64) bool {
	return int64(len(e.Args)) == arity && (!e.Fails || Equal(e.Result, api.Value{}))
}
