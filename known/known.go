// Package known says what a short look at two nodes of a type shows of their members. The layers use it to leave out what cannot be; what a short look does not show, they leave to the layers that decide it.
package known

import (
	"slices"

	"semtype/api"
)

// Within reports whether each member of node a is known to be a member of node b.
func Within(nodes []api.TypeNode, a, b int) bool {
	l := look{nodes, steps}
	return l.isWithin(a, b)
}

// Apart reports whether it is known that no value is a member of both nodes.
func Apart(nodes []api.TypeNode, a, b int) bool {
	l := look{nodes, steps}
	return l.areApart(a, b)
}

// steps bounds the pairs of nodes that one look compares, so that it ends also in types with cycles, and soon in large ones.
const steps = 100

type look struct {
	nodes []api.TypeNode
	left  int // steps
}

// ends takes a step, and reports whether there is none left.
func (l *look) ends() bool {
	l.left--
	return l.left < 0
}

func (l *look) isWithin(a, b int) bool {
	if a == b {
		return true
	}
	if l.ends() {
		return false
	}
	m, n := &l.nodes[a], &l.nodes[b]
	switch {
	case m.Kind == api.TNone || n.Kind == api.TAny:
		return true
	case m.Kind == api.TUnion:
		return !slices.ContainsFunc(m.Kids, func(kid int) bool { return !l.isWithin(kid, b) })
	case n.Kind == api.TInter:
		return !slices.ContainsFunc(n.Kids, func(kid int) bool { return !l.isWithin(a, kid) })
	case n.Kind == api.TNot:
		return l.areApart(a, n.Kids[0])
	case n.Kind == api.TUnion && slices.ContainsFunc(n.Kids, func(kid int) bool { return l.isWithin(a, kid) }):
		return true
	case m.Kind == api.TInter:
		return slices.ContainsFunc(m.Kids, func(kid int) bool { return l.isWithin(kid, b) })
	}
	return l.isPlainWithin(m, n)
}

// isPlainWithin is for nodes that are no connectives, and false for others.
func (l *look) isPlainWithin(m, n *api.TypeNode) bool {
	switch n.Kind {
	case api.TStrings:
		return m.Kind == api.TStrings || m.Kind == api.TString
	case api.TAtoms:
		return m.Kind == api.TAtoms || m.Kind == api.TAtom
	case api.TTuples:
		return m.Kind == api.TTuples || m.Kind == api.TTuple
	case api.TFuns:
		return m.Kind == api.TFuns || m.Kind == api.TFun
	}
	if m.Kind != n.Kind {
		return false
	}
	switch n.Kind {
	case api.TInt:
		return n.Lo <= m.Lo && m.Hi <= n.Hi
	case api.TString, api.TAtom, api.TVar:
		return m.Text == n.Text
	case api.TTuple, api.TCons:
		return l.areWithin(m.Kids, n.Kids)
	case api.TFun:
		last, end := len(m.Kids)-1, len(n.Kids)-1
		return l.areWithin(n.Kids[:end], m.Kids[:last]) && l.isWithin(m.Kids[last], n.Kids[end])
	}
	return n.Kind == api.TPid || n.Kind == api.TNil
}

// areWithin reports whether each node of a is within the one of b at its place.
func (l *look) areWithin(a, b []int) bool {
	if len(a) != len(b) {
		return false
	}
	for i := range a {
		if !l.isWithin(a[i], b[i]) {
			return false
		}
	}
	return true
}

func (l *look) areApart(a, b int) bool {
	if l.ends() {
		return false
	}
	m, n := &l.nodes[a], &l.nodes[b]
	switch {
	case m.Kind == api.TNone || n.Kind == api.TNone:
		return true
	case m.Kind == api.TUnion:
		return l.isApartFromAll(b, m.Kids)
	case n.Kind == api.TUnion:
		return l.isApartFromAll(a, n.Kids)
	case m.Kind == api.TNot && l.isWithin(b, m.Kids[0]), n.Kind == api.TNot && l.isWithin(a, n.Kids[0]):
		return true
	case m.Kind == api.TInter && l.isApartFromSome(b, m.Kids), n.Kind == api.TInter && l.isApartFromSome(a, n.Kids):
		return true
	}
	return l.arePlainApart(m, n)
}

func (l *look) isApartFromAll(a int, kids []int) bool {
	return !slices.ContainsFunc(kids, func(kid int) bool { return !l.areApart(a, kid) })
}

func (l *look) isApartFromSome(a int, kids []int) bool {
	return slices.ContainsFunc(kids, func(kid int) bool { return l.areApart(a, kid) })
}

// arePlainApart is for nodes that are no connectives, and false for others.
func (l *look) arePlainApart(m, n *api.TypeNode) bool {
	k := kindOf(m)
	switch {
	case k == 0 || kindOf(n) == 0:
		return false
	case k != kindOf(n):
		return true
	case m.Kind != n.Kind:
		return false
	}
	switch m.Kind {
	case api.TInt:
		return m.Hi < n.Lo || n.Hi < m.Lo
	case api.TString, api.TAtom:
		return m.Text != n.Text
	case api.TTuple, api.TCons:
		return len(m.Kids) != len(n.Kids) || l.areApartSomewhere(m.Kids, n.Kids)
	case api.TFun:
		return len(m.Kids) != len(n.Kids)
	}
	return false
}

// areApartSomewhere reports whether some node of a is apart from the one of b at its place.
func (l *look) areApartSomewhere(a, b []int) bool {
	for i := range a {
		if l.areApart(a[i], b[i]) {
			return true
		}
	}
	return false
}

// kindOf returns the kind of the values of which the node has members, and 0 if it may have members of several kinds.
func kindOf(node *api.TypeNode) int {
	switch node.Kind {
	case api.TInt:
		return api.VInt
	case api.TString, api.TStrings:
		return api.VString
	case api.TAtom, api.TAtoms:
		return api.VAtom
	case api.TPid:
		return api.VPid
	case api.TNil:
		return api.VNil
	case api.TTuple, api.TTuples:
		return api.VTuple
	case api.TCons:
		return api.VCons
	case api.TMap:
		return api.VMap
	case api.TFun, api.TFuns:
		return api.VFun
	}
	return 0
}
