package member

import (
	"iter"
	"slices"

	"semtype/api"
)

// search decides membership of valid values in the nodes of a well-formed type. It keeps its answers, since many ways may lead to the same question.
type search struct {
	nodes []api.TypeNode
	known map[question]bool
	depth int
}

// question asks whether the value at this place is a member of the node.
type question struct {
	value *api.Value
	node  int
}

// deep is the number of questions within each other from which on values are decided from the inside, so that the stack suffices for long lists, and for deep values with many connectives at each level. Up to there they are decided from the outside, which asks fewer questions; the levels that the document allows are fewer than that.
const deep = 1 << 17

// in reports whether v is a member of node n.
func (s *search) in(v *api.Value, n int) bool {
	node, q := &s.nodes[n], question{v, n}
	if is, decided := decideAtOnce(v, node); decided {
		return is
	}
	if is, known := s.known[q]; known {
		return is
	}
	s.depth++
	if s.depth > deep {
		s.decideInside(v, n)
	}
	s.known[q] = s.decide(v, node)
	s.depth--
	return s.known[q]
}

// decideInside decides for the values in v, each after its parts.
func (s *search) decideInside(v *api.Value, n int) {
	for _, part := range slices.Backward(s.undecidedInside(v, n)) {
		s.known[question{part, n}] = s.decide(part, &s.nodes[n])
	}
}

// undecidedInside returns the values in v without a known answer, each before its parts.
func (s *search) undecidedInside(v *api.Value, n int) []*api.Value {
	l := []*api.Value{v}
	for i := 0; i < len(l); i++ {
		for part := range partsOf(l[i]) {
			if _, known := s.known[question{part, n}]; !known {
				l = append(l, part)
			}
		}
	}
	return l[1:]
}

// partsOf yields the Kids, Args and Results of v.
func partsOf(v *api.Value) iter.Seq[*api.Value] {
	return func(yield func(*api.Value) bool) {
		for i := range v.Kids {
			if !yield(&v.Kids[i]) {
				return
			}
		}
		for i := range v.Entries {
			e := &v.Entries[i]
			for j := range e.Args {
				if !yield(&e.Args[j]) {
					return
				}
			}
			if !e.Fails && !yield(&e.Result) {
				return
			}
		}
	}
}

// decideAtOnce decides for the nodes that lead to no other node.
func decideAtOnce(v *api.Value, node *api.TypeNode) (is, decided bool) {
	switch node.Kind {
	case api.TNone:
		is = false
	case api.TAny:
		is = true
	case api.TInt:
		is = v.Kind == api.VInt && node.Lo <= v.Int && v.Int <= node.Hi
	case api.TString:
		is = v.Kind == api.VString && v.Text == node.Text
	case api.TStrings:
		is = v.Kind == api.VString
	case api.TAtom:
		is = v.Kind == api.VAtom && v.Text == node.Text
	case api.TAtoms:
		is = v.Kind == api.VAtom
	case api.TPid:
		is = v.Kind == api.VPid
	case api.TNil:
		is = v.Kind == api.VNil
	case api.TTuples:
		is = v.Kind == api.VTuple
	case api.TFuns:
		is = v.Kind == api.VFun
	case api.TVar:
		is = slices.Contains(v.Labels, node.Text)
	default:
		return false, false
	}
	return is, true
}

// decide decides for the nodes that lead to other nodes.
func (s *search) decide(v *api.Value, node *api.TypeNode) bool {
	switch node.Kind {
	case api.TUnion:
		return slices.ContainsFunc(node.Kids, func(n int) bool { return s.in(v, n) })
	case api.TInter:
		return !slices.ContainsFunc(node.Kids, func(n int) bool { return !s.in(v, n) })
	case api.TNot:
		return !s.in(v, node.Kids[0])
	}
	return s.fits(v, node) && s.allIn(s.parts(v, node))
}

func (s *search) allIn(l iter.Seq2[*api.Value, int]) bool {
	for v, n := range l {
		if !s.in(v, n) {
			return false
		}
	}
	return true
}
