package typeexpr

import (
	"semtype/api"
	"semtype/ident"
)

// WellFormed returns ErrInvalid if the root or a node of t is not valid, and ErrLoop if t is not contractive.
func WellFormed(t api.Type) api.Code {
	if !isNode(t.Nodes, t.Root) {
		return api.ErrInvalid
	}
	for _, node := range t.Nodes {
		if !usesItsFields(node) || !hasItsForm(node) || !refersToNodes(&node, t.Nodes) {
			return api.ErrInvalid
		}
	}
	if !isContractive(t.Nodes) {
		return api.ErrLoop
	}
	return api.OK
}

// Validate returns the error of WellFormed, and ErrLimit if t is too large.
func Validate(t api.Type) api.Code {
	if code := WellFormed(t); code != api.OK {
		return code
	}
	for _, node := range t.Nodes {
		if len(node.Fields) > api.MaxFields {
			return api.ErrLimit
		}
	}
	if len(t.Nodes) > api.MaxTypeNodes || len(Variables(t)) > api.MaxVariables {
		return api.ErrLimit
	}
	return api.OK
}

// accept returns t, or None if t is not well-formed.
func accept(t api.Type) api.Type {
	if WellFormed(t) != api.OK {
		return None()
	}
	return t
}

func isNode(nodes []api.TypeNode, n int) bool { return 0 <= n && n < len(nodes) }

// usesItsFields reports whether the fields that the kind does not use are zero or empty.
func usesItsFields(node api.TypeNode) bool {
	switch node.Kind {
	case api.TInt:
		node.Lo, node.Hi = 0, 0
	case api.TString, api.TAtom, api.TVar:
		node.Text = ""
	case api.TTuple, api.TCons, api.TFun, api.TUnion, api.TInter, api.TNot:
		node.Kids = nil
	case api.TMap:
		node.Fields, node.Rest = nil, [2]int{}
	}
	return node.Lo == 0 && node.Hi == 0 && node.Text == "" && len(node.Kids) == 0 && len(node.Fields) == 0 && node.Rest == [2]int{}
}

// hasItsForm reports whether the node has one of the kinds and meets the condition of its kind, whatever its indices are.
func hasItsForm(node api.TypeNode) bool {
	switch node.Kind {
	case api.TNone, api.TAny, api.TStrings, api.TAtoms, api.TPid, api.TNil, api.TTuples, api.TFuns:
		return true
	case api.TInt:
		return node.Lo <= node.Hi
	case api.TString:
		return isText(node.Text)
	case api.TAtom:
		return ident.IsAtom(node.Text)
	case api.TVar:
		return ident.IsVariable(node.Text)
	case api.TTuple:
		return len(node.Kids) <= api.MaxArity
	case api.TCons:
		return len(node.Kids) == 2
	case api.TMap:
		return hasValidKeys(node.Fields)
	case api.TFun:
		return 1 <= len(node.Kids) && len(node.Kids) <= api.MaxArity+1
	case api.TUnion, api.TInter:
		return len(node.Kids) >= 1
	case api.TNot:
		return len(node.Kids) == 1
	}
	return false
}

func isText(s string) bool { return len(s) <= api.MaxText }

// hasValidKeys reports whether the keys are valid and strictly ascending.
func hasValidKeys(fields []api.Field) bool {
	for i, f := range fields {
		if !ident.ValidKey(f.Key) || i > 0 && ident.CompareKeys(fields[i-1].Key, f.Key) >= 0 {
			return false
		}
	}
	return true
}

func refersToNodes(node *api.TypeNode, nodes []api.TypeNode) bool {
	for n := range parts(node) {
		if !isNode(nodes, n) {
			return false
		}
	}
	return true
}

// How far the search for cycles has come with a node.
const (
	unseen = iota
	entered
	finished
)

// cycles is a search for cycles of TUnion, TInter and TNot nodes.
type cycles struct {
	nodes  []api.TypeNode
	states []int8
}

// isContractive reports whether no cycle consists of TUnion, TInter and TNot nodes only.
func isContractive(nodes []api.TypeNode) bool {
	search := cycles{nodes, make([]int8, len(nodes))}
	for n := range nodes {
		if search.closesAt(n) {
			return false
		}
	}
	return true
}

// closesAt reports whether the way on from n comes back to a node that is entered and not finished.
func (c *cycles) closesAt(n int) bool {
	if !isConnective(c.nodes[n].Kind) || c.states[n] == finished {
		return false
	}
	if c.states[n] == entered {
		return true
	}
	c.states[n] = entered
	for _, kid := range c.nodes[n].Kids {
		if c.closesAt(kid) {
			return true
		}
	}
	c.states[n] = finished
	return false
}

func isConnective(kind int) bool {
	return kind == api.TUnion || kind == api.TInter || kind == api.TNot
}
