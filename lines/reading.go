package lines

import (
	"slices"

	"semtype/api"
)

// fact says that a value is a member of a node, or, if denied, that it is none. It is the index of the node times two, plus one if denied: so facts are in the order of their nodes, and opposite ones are neighbours.
type fact int

func about(node int, denied bool) fact {
	if denied {
		return fact(2*node + 1)
	}
	return fact(2 * node)
}

func (f fact) node() int { return int(f) / 2 }

func (f fact) denied() bool { return f%2 == 1 }

func (f fact) opposite() fact { return f ^ 1 }

func factsOf(g api.Goal) (l []fact) {
	for _, n := range g.Pos {
		l = append(l, about(n, false))
	}
	for _, n := range g.Neg {
		l = append(l, about(n, true))
	}
	return l
}

// class is a kind of values, with one arity if it is that of tuples or functions.
type class struct{ kind, arity int }

func classes(lists bool) (l []class) {
	for kind := api.VInt; kind <= api.VFun; kind++ {
		last := 0
		if kind == api.VTuple || kind == api.VFun {
			last = api.MaxArity
		}
		for arity := 0; arity <= last && (!lists || isList(kind)); arity++ {
			l = append(l, class{kind, arity})
		}
	}
	return l
}

// firstNodes returns the first node of each type variable. It stands for all of them.
func firstNodes(nodes []api.TypeNode) map[string]int {
	first := map[string]int{}
	for i, node := range slices.Backward(nodes) {
		if node.Kind == api.TVar {
			first[node.Text] = i
		}
	}
	return first
}

// truth is what is known of a node for all values of a class.
type truth int8

const (
	unread truth = iota
	never
	always
	inBase // it depends on Int or Text
	open   // it depends on parts or labels
)

func (t truth) opposite() truth {
	switch t {
	case never:
		return always
	case always:
		return never
	}
	return t
}

// reading is what the nodes of a well-formed type say of the values of one class.
type reading struct {
	class
	nodes     []api.TypeNode
	variables map[string]int
	truths    []truth
	bases     map[fact]base
	choices   map[fact]choice
}

func newReading(nodes []api.TypeNode, variables map[string]int, c class) *reading {
	return &reading{c, nodes, variables, make([]truth, len(nodes)), map[fact]base{}, map[fact]choice{}}
}

func (r *reading) truthOf(f fact) truth {
	t := r.truthOfNode(f.node())
	if f.denied() {
		return t.opposite()
	}
	return t
}

func (r *reading) truthOfNode(n int) truth {
	if r.truths[n] == unread {
		r.truths[n] = r.readNode(&r.nodes[n])
	}
	return r.truths[n]
}

func (r *reading) readNode(node *api.TypeNode) truth {
	switch node.Kind {
	case api.TUnion:
		return r.readKids(node.Kids, never)
	case api.TInter:
		return r.readKids(node.Kids, always)
	case api.TNot:
		return r.truthOfNode(node.Kids[0]).opposite()
	case api.TAny:
		return always
	case api.TVar:
		return open
	}
	if !r.concerns(node) {
		return never
	}
	switch node.Kind {
	case api.TInt, api.TString, api.TAtom:
		return inBase
	case api.TTuple, api.TCons, api.TMap, api.TFun:
		return open
	}
	return always
}

// readKids reads Kids of which those that are neutral do not count, and one of the opposite decides.
func (r *reading) readKids(kids []int, neutral truth) truth {
	result := neutral
	for _, n := range kids {
		switch t := r.truthOfNode(n); t {
		case neutral:
		case neutral.opposite():
			return t
		default:
			if result == neutral || t == open {
				result = t
			}
		}
	}
	return result
}

// valueKinds has, by the kind of a node that is no connective, the kind of the values that may be members.
var valueKinds = [...]int{
	api.TInt: api.VInt, api.TString: api.VString, api.TStrings: api.VString, api.TAtom: api.VAtom, api.TAtoms: api.VAtom, api.TPid: api.VPid, api.TNil: api.VNil,
	api.TTuple: api.VTuple, api.TTuples: api.VTuple, api.TCons: api.VCons, api.TMap: api.VMap, api.TFun: api.VFun, api.TFuns: api.VFun,
}

// concerns reports whether some value of the class may be a member of the node, which is no connective, by its kind and its number of Kids.
func (r *reading) concerns(node *api.TypeNode) bool {
	switch {
	case node.Kind == api.TTuple && len(node.Kids) != r.arity, node.Kind == api.TFun && len(node.Kids) != r.arity+1:
		return false
	}
	return valueKinds[node.Kind] == r.kind
}
