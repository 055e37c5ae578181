package diagram

import (
	"slices"

	"semtype/api"
)

// Valid reports whether d is reduced, ordered and in normal form, which a diagram is exactly if building it anew changes nothing.
func Valid(d api.Diagram) bool {
	if !isOrdered(d) {
		return false
	}
	normal := restrict(d, noLiteral, false)
	return normal.Root == d.Root && slices.Equal(normal.Nodes, d.Nodes)
}

// isOrdered reports whether the references exist, and those of each node lead to earlier nodes with later literals. So recursion along them is never deeper than there are literals.
func isOrdered(d api.Diagram) bool {
	for i, n := range d.Nodes {
		if !isLiteral(n.Literal) || !isBelow(d, i, n.High) || !isBelow(d, i, n.Low) {
			return false
		}
	}
	return isReference(d.Root, len(d.Nodes))
}

// isBelow reports whether node i may refer to r.
func isBelow(d api.Diagram, i, r int) bool {
	return isReference(r, i) && d.Nodes[i].Literal < literalAt(d, r)
}

// isReference reports whether r refers to a constant or to one of the first nodes, as many as count.
func isReference(r, count int) bool { return 0 <= r && r < firstNode+count }

// accept returns d, or False() if d is not valid.
func accept(d api.Diagram) api.Diagram {
	if Valid(d) {
		return d
	}
	return False()
}
