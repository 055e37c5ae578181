package diagram

import "semtype/api"

// builder lists the nodes of a new diagram.
//
// Whoever uses it asks for the reference of a function after that of its High part, and then of its Low part. So the nodes are listed in the order in which P6.1 wants them, and all of them are parts of the function that is asked for last.
type builder struct {
	nodes []api.DiagramNode
	known map[api.DiagramNode]int
}

// newBuilder makes room for this many nodes to begin with.
func newBuilder(size int) *builder {
	return &builder{known: make(map[api.DiagramNode]int, size)}
}

// reference returns the reference to the function of n, which is listed only if it is needed and new.
func (b *builder) reference(n api.DiagramNode) int {
	if n.High == n.Low {
		return n.High
	}
	r, found := b.known[n]
	if !found {
		r = firstNode + len(b.nodes)
		b.nodes = append(b.nodes, n)
		b.known[n] = r
	}
	return r
}

// diagram returns the diagram whose root is the reference that was asked for last.
func (b *builder) diagram(root int) api.Diagram {
	return api.Diagram{Nodes: b.nodes, Root: root}
}

func constant(value bool) int {
	if value {
		return trueReference
	}
	return falseReference
}
