package diagram

import (
	"slices"

	"semtype/api"
)

// noLiteral is no literal of any diagram.
const noLiteral = -1

// And returns the function that is true where both a and b are.
func And(a, b api.Diagram) api.Diagram {
	return combine(accept(a), accept(b), func(x, y bool) bool { return x && y })
}

// Or returns the function that is true where a or b is.
func Or(a, b api.Diagram) api.Diagram {
	return combine(accept(a), accept(b), func(x, y bool) bool { return x || y })
}

// Not returns the function that is true where a is not.
func Not(a api.Diagram) api.Diagram {
	return combine(accept(a), True(), func(x, y bool) bool { return x != y })
}

// Restrict returns d with literal n fixed, or d itself if n is not a literal.
func Restrict(d api.Diagram, n int, value bool) api.Diagram {
	return restrict(accept(d), n, value)
}

// pair has references to a function of the first and to one of the second diagram.
type pair struct{ a, b int }

// combine returns the diagram of what choose makes of the values of a and b.
func combine(a, b api.Diagram, choose func(x, y bool) bool) api.Diagram {
	size := len(a.Nodes) + len(b.Nodes)
	build, results := newBuilder(size), make(map[pair]int, size)
	var walk func(p pair) int
	walk = func(p pair) int {
		if p.a < firstNode && p.b < firstNode {
			return constant(choose(p.a == trueReference, p.b == trueReference))
		}
		if r, found := results[p]; found {
			return r
		}
		n := min(literalAt(a, p.a), literalAt(b, p.b))
		high := walk(pair{follow(a, p.a, n, true), follow(b, p.b, n, true)})
		low := walk(pair{follow(a, p.a, n, false), follow(b, p.b, n, false)})
		r := build.reference(api.DiagramNode{Literal: n, High: high, Low: low})
		results[p] = r
		return r
	}
	return build.diagram(walk(pair{a.Root, b.Root}))
}

// restrict asks of d only that it is ordered: what it returns is reduced and in normal form all the same.
func restrict(d api.Diagram, n int, value bool) api.Diagram {
	const unknown = -1
	build, results := newBuilder(len(d.Nodes)), slices.Repeat([]int{unknown}, len(d.Nodes))
	var walk func(r int) int
	walk = func(r int) int {
		if r < firstNode {
			return r
		}
		result := &results[r-firstNode]
		if *result != unknown {
			return *result
		}
		node := d.Nodes[r-firstNode]
		if node.Literal == n {
			*result = walk(follow(d, r, n, value))
			return *result
		}
		high := walk(node.High)
		low := walk(node.Low)
		*result = build.reference(api.DiagramNode{Literal: node.Literal, High: high, Low: low})
		return *result
	}
	return build.diagram(walk(d.Root))
}
