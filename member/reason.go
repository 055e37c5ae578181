package member

import (
	"slices"

	"semtype/api"
)

// reason says that a value is a member of a node and should be none, or, if not member, that it is none and should be one.
type reason struct {
	value  *api.Value
	node   int
	member bool
}

// deeper returns a reason for r one node further on. found is false if r itself is a reason to end with.
func (s *search) deeper(r reason) (next reason, found bool) {
	node := &s.nodes[r.node]
	switch node.Kind {
	case api.TNot:
		return reason{r.value, node.Kids[0], !r.member}, true
	case api.TUnion, api.TInter:
		i := slices.IndexFunc(node.Kids, func(n int) bool { return s.in(r.value, n) == r.member })
		return reason{r.value, node.Kids[i], r.member}, true
	}
	if s.fits(r.value, node) {
		for part, n := range s.parts(r.value, node) {
			if !s.in(part, n) {
				return reason{part, n, false}, true
			}
		}
	}
	return reason{}, false
}
