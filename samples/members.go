package samples

import (
	"slices"

	"semtype/api"
	"semtype/goalkey"
	"semtype/member"
)

// Members knows which of some values are members of which nodes of a type, by package member.
type Members struct {
	Type   api.Type
	Values []api.Value
	in     [][]bool // by value and node
	known  map[string][]api.Value
}

// NewMembers asks package member once for each value and node.
func NewMembers(x api.Type, values []api.Value) *Members {
	m := &Members{x, values, nil, map[string][]api.Value{}}
	for _, v := range values {
		row := make([]bool, len(x.Nodes))
		for n := range row {
			row[n] = member.MemberOf(v, x, n)
		}
		m.in = append(m.in, row)
	}
	return m
}

// Of returns the values that are in the goal, by the words of P9.1.
func (m *Members) Of(g api.Goal) (l []api.Value) {
	k := goalkey.Of(g)
	if l, known := m.known[k]; known {
		return l
	}
	for i, v := range m.Values {
		isMember := func(n int) bool { return m.in[i][n] }
		isNone := func(n int) bool { return !isMember(n) }
		isList := v.Kind == api.VNil || v.Kind == api.VCons
		if !slices.ContainsFunc(g.Pos, isNone) && !slices.ContainsFunc(g.Neg, isMember) && (isList || !g.Lists) {
			l = append(l, v)
		}
	}
	m.known[k] = l
	return l
}
