package typeexpr

import (
	"iter"
	"slices"

	"semtype/api"
)

// parts yields the indices in the fields that the node uses. The node may be invalid.
func parts(node *api.TypeNode) iter.Seq[int] {
	return func(yield func(int) bool) {
		for _, n := range node.Kids {
			if !yield(n) {
				return
			}
		}
		for _, f := range node.Fields {
			if !yield(f.Node) {
				return
			}
		}
		if node.Kind == api.TMap {
			_ = yield(node.Rest[0]) && yield(node.Rest[1])
		}
	}
}

// moved returns the node in new memory, with each index replaced by its place.
func moved(node api.TypeNode, place func(int) int) api.TypeNode {
	node.Kids = slices.Clone(node.Kids)
	for i, n := range node.Kids {
		node.Kids[i] = place(n)
	}
	node.Fields = slices.Clone(node.Fields)
	for i, f := range node.Fields {
		node.Fields[i].Node = place(f.Node)
	}
	if node.Kind == api.TMap {
		node.Rest = [2]int{place(node.Rest[0]), place(node.Rest[1])}
	}
	return node
}

// walk lists the nodes to which a node leads.
type walk struct {
	nodes   []api.TypeNode
	visited []bool
	listed  []int
}

// reached returns the nodes that the root of t leads to, the root first. t is well-formed.
func reached(t api.Type) []int {
	w := walk{nodes: t.Nodes, visited: make([]bool, len(t.Nodes))}
	w.visit(t.Root)
	return w.listed
}

func (w *walk) visit(n int) {
	if w.visited[n] {
		return
	}
	w.visited[n] = true
	w.listed = append(w.listed, n)
	for part := range parts(&w.nodes[n]) {
		w.visit(part)
	}
}
