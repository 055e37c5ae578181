package member_test

import (
	"slices"
	"testing"

	"semtype/api"
	"semtype/member"
	"semtype/samples"
	"semtype/typeexpr"
)

// isPath reports whether the path begins with the root, goes on to parts only, and ends at no connective.
func isPath(path []int, x api.Type) bool {
	if len(path) == 0 || path[0] != x.Root {
		return false
	}
	for i, n := range path[1:] {
		if !slices.Contains(indices(x.Nodes[path[i]]), n) {
			return false
		}
	}
	return !slices.Contains([]int{api.TUnion, api.TInter, api.TNot}, x.Nodes[path[len(path)-1]].Kind)
}

// indices returns the Kids, the Nodes of the Fields and the Rest of a node.
func indices(node api.TypeNode) []int {
	l := slices.Clone(node.Kids)
	for _, f := range node.Fields {
		l = append(l, f.Node)
	}
	if node.Kind == api.TMap {
		l = append(l, node.Rest[:]...)
	}
	return l
}

// explains follows the words of P8.3.
func explains(path []int, v api.Value, x api.Type) bool {
	if !isPath(path, x) {
		return false
	}
	excluded := slices.ContainsFunc(path, func(n int) bool { return x.Nodes[n].Kind == api.TNot })
	return slices.ContainsFunc(samples.Subvalues(v), func(w api.Value) bool {
		return excluded || !member.MemberOf(w, x, path[len(path)-1])
	})
}

// P8.3: values that are no members, each with all nodes at which the words let a path end.
func TestExplain(t *testing.T) {
	one, word, a := integer(1), str("w"), atom("a")
	ints, all, none := from(least, greatest), kind(api.TAny), kind(api.TNone)
	for _, c := range []struct {
		name string
		x    api.Type
		v    api.Value
		ends []int
	}{
		{"leaf", graph(ints), a, []int{0}},
		{"none", graph(none), a, []int{0}},
		{"variable", graph(text(api.TVar, "A")), label(tuple(label(a, "A")), "B"), []int{0}},
		{"union", graph(kind(api.TUnion, 1, 2), ints, kind(api.TNil)), a, []int{1, 2}},
		{"union of unions", graph(kind(api.TUnion, 1), kind(api.TUnion, 2, 3), ints, kind(api.TNil)), a, []int{2, 3}},
		{"intersection", graph(kind(api.TInter, 1, 2, 3), all, ints, kind(api.TUnion, 1)), a, []int{2}},
		{"not", graph(kind(api.TNot, 1), all), a, []int{1}},
		{"not of not", graph(kind(api.TNot, 1), kind(api.TNot, 2), ints), a, []int{2}},
		{"not of union", graph(kind(api.TNot, 1), kind(api.TUnion, 2, 3), ints, kind(api.TAtoms)), a, []int{3, 2}},
		{"not of intersection", graph(kind(api.TNot, 1), kind(api.TInter, 2, 2), all), a, []int{2}},
		{"other kind than a tuple", graph(kind(api.TTuple, 1), all), a, []int{0}},
		{"fewer components", graph(kind(api.TTuple, 1, 1), all), tuple(a), []int{0}},
		{"more components", graph(kind(api.TTuple, 1), all), tuple(a, a), []int{0}},
		{"component", graph(kind(api.TTuple, 1, 2), all, ints), tuple(a, a), []int{0, 2}},
		{"head", graph(kind(api.TCons, 1, 2), ints, kind(api.TNil)), list(a), []int{0, 1, 2}},
		{"tail", graph(kind(api.TCons, 1, 2), all, kind(api.TNil)), list(a, a), []int{0, 2}},
		{"list", graph(kind(api.TUnion, 1, 2), kind(api.TNil), kind(api.TCons, 3, 0), ints), list(one, a), []int{1, 2, 3}},
		{"missing key", graph(record(1, 1, field("a", 1)), all), dict("b", one), []int{0}},
		{"field", graph(record(1, 1, optional("a", 2)), all, ints), dict("a", a), []int{0, 2}},
		{"rest of atoms", graph(record(2, 1), all, ints), dict("a", a), []int{0, 2}},
		{"rest of strings", graph(record(1, 2), all, ints), dict("\"a", a), []int{0, 2}},
		{"no map", graph(record(1, 1), all), list(), []int{0}},
		{"arity", graph(kind(api.TFun, 1, 1), all), fun(2), []int{0}},
		{"error output", graph(kind(api.TFun, 1, 1), all), fun(1, fails(a)), []int{0}},
		{"result", graph(kind(api.TFun, 1, 2), all, kind(api.TStrings)), fun(1, maps(a, word), maps(word, word), maps(word, one)), []int{0, 2}},
		{"result of a result", graph(kind(api.TFun, 1, 2), all, kind(api.TFun, 1, 3), kind(api.TStrings)), fun(1, maps(a, fun(1, maps(one, one)))), []int{0, 2, 3}},
		{"argument that is none", graph(kind(api.TFun, 1, 2), kind(api.TNot, 3), all, kind(api.TStrings)), fun(1, fails(one)), []int{0, 3}},
		{"function as argument", graph(kind(api.TFun, 1, 2), kind(api.TFun, 3, 3), ints, all), fun(1, maps(fun(1, maps(a, a)), word)), []int{0, 1, 2}},
		{"not of a function", graph(kind(api.TNot, 1), kind(api.TFun, 2, 2), ints), fun(1, maps(a, a)), []int{1, 2}},
		{"not inside", graph(kind(api.TTuple, 1), kind(api.TNot, 2), kind(api.TTuple, 3), all), tuple(tuple(a)), []int{0, 2, 3}},
		{"maps in tuples in lists", graph(kind(api.TCons, 1, 4), kind(api.TTuple, 2), record(3, 3), text(api.TVar, "A"), all), list(tuple(dict("a", label(a, "A"), "b", a))), []int{0, 1, 2, 3}},
	} {
		if code := typeexpr.WellFormed(c.x); code != api.OK || member.Member(c.v, c.x) {
			t.Fatal(c.name, code)
		}
		path := member.Explain(c.v, c.x)
		if !explains(path, c.v, c.x) || !slices.Contains(c.ends, path[len(path)-1]) {
			t.Error(c.name, path)
		}
	}
}

// P8.3: members need no explanation, also where their parts go through every kind of node; with another part in them they need one.
func TestExplainMembers(t *testing.T) {
	one, a := integer(1), atom("a")
	x := graph(kind(api.TUnion, 1, 2), kind(api.TNil), kind(api.TInter, 3, 4), kind(api.TNot, 1), kind(api.TTuple, 5, 6), record(7, 8, field("a", 8), optional("b", 7)), kind(api.TFun, 7, 8), from(0, 9), kind(api.TAtoms))
	m, f := dict("a", a, "b", one, "c", one, "\"d", a), fun(1, maps(one, a), fails(a), maps(a, one))
	for _, v := range []api.Value{list(), tuple(m, f), tuple(dict("a", a), fun(1)), label(tuple(m, fun(1, fails(a))), "A")} {
		if !member.Member(v, x) || len(member.Explain(v, x)) > 0 {
			t.Error(v, member.Explain(v, x))
		}
	}
	for _, v := range []api.Value{
		one, tuple(), tuple(m), tuple(f, m), tuple(m, f, f), tuple(dict("b", one), f), tuple(dict("a", one), f), tuple(dict("a", a, "b", a), f), tuple(dict("a", a, "c", a), f), tuple(dict("a", a, "\"d", one), f),
		tuple(m, fun(2)), tuple(m, fun(1, fails(one))), tuple(m, fun(1, maps(one, one))), tuple(m, fun(1, maps(one, a), maps(integer(2), m))),
	} {
		path := member.Explain(v, x)
		if member.Member(v, x) || !explains(path, v, x) {
			t.Error(v, path)
		}
	}
}

// copies returns v and x in memory that nothing else uses.
func copies(v api.Value, x api.Type) (api.Value, api.Type) {
	return label(v, v.Labels...), typeexpr.At(x, x.Root)
}

// R2, R5: arguments are not changed, and paths are new memory.
func TestMemory(t *testing.T) {
	x := graph(kind(api.TUnion, 1, 2), kind(api.TTuple, 3, 4), kind(api.TNot, 5), record(4, 4, field("a", 4)), kind(api.TFun, 5, 5), kind(api.TAny))
	v := label(tuple(dict("a", integer(1)), fun(1, maps(integer(1), atom("a")))), "A", "B")
	before := show(v) + show(x)
	path := member.Explain(v, x)
	member.Member(v, x)
	for n := range x.Nodes {
		member.MemberOf(v, x, n)
	}
	wanted := slices.Clone(path)
	room := path[:cap(path)]
	for i := range room {
		room[i] = 99
	}
	w, y := copies(v, x)
	if show(v)+show(x) != before || len(wanted) == 0 || !slices.Equal(member.Explain(v, x), wanted) || !slices.Equal(member.Explain(w, y), wanted) {
		t.Error(wanted, member.Explain(v, x))
	}
}
