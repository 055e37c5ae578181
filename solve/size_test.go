package solve_test

import (
	"testing"

	"semtype/api"
	"semtype/samples"
)

// builder adds nodes to a type.
type builder struct{ api.Type }

func (b *builder) add(kind int, kids ...int) int { return b.addNode(samples.Node(kind, kids...)) }

func (b *builder) addNode(node api.TypeNode) int {
	b.Nodes = append(b.Nodes, node)
	return len(b.Nodes) - 1
}

// addAtoms adds the atoms t0, t1 and so on.
func (b *builder) addAtoms(number int) (l []int) {
	for i := range number {
		l = append(l, b.addNode(text(api.TAtom, "t"+show(i))))
	}
	return l
}

// addList adds the lists of these elements.
func (b *builder) addList(element int) int {
	list := b.add(api.TUnion, b.add(api.TNil))
	cons := b.add(api.TCons, element, list)
	b.Nodes[list].Kids = append(b.Nodes[list].Kids, cons)
	return list
}

// R8: chains of more nodes than a program may have in a type, and heights beyond the limit for witnesses.
func TestChains(t *testing.T) {
	const number = 1000
	for i, c := range []struct {
		link   func(next int) api.TypeNode
		wanted int
	}{
		{func(next int) api.TypeNode { return kind(api.TTuple, 1, next) }, number + 1},
		{func(next int) api.TypeNode { return kind(api.TCons, 1, next) }, number + 1},
		{func(next int) api.TypeNode { return record(0, 0, field("a", next), optional("b", next)) }, number + 1},
		{func(next int) api.TypeNode { return kind(api.TUnion, 0, next) }, 1},
		{func(next int) api.TypeNode { return kind(api.TNot, next) }, 1},
	} {
		x := graph(kind(api.TNone), kind(api.TNil))
		for range number {
			x.Nodes = append(x.Nodes, c.link(len(x.Nodes)-1))
		}
		mustBeWellFormed(t, x)
		last := len(x.Nodes) - 1
		expect(t, i, x, in(last), c.wanted)
		expect(t, i, x, in(last, 0), 0)
		expect(t, i, x, both(only(last), last), 0)
	}
}

// A chain of cycles: the members of each node contain some of the one before.
func TestChainOfCycles(t *testing.T) {
	b := builder{graph(kind(api.TUnion, 1, 2), kind(api.TNil), kind(api.TTuple, 0, 0))}
	before := 0
	for n := range 60 {
		tree := b.add(api.TUnion)
		b.Nodes[tree].Kids = only(b.add(api.TTuple, before, tree), b.add(api.TTuple, tree, before), b.add(api.TTuple, before))
		mustBeWellFormed(t, b.Type)
		expect(t, n, b.Type, in(tree), n+2)
		if n < 6 {
			expect(t, n, b.Type, both(only(tree), before), n+2)
		}
		before = tree
	}
}

// addTagged adds a recursive type of tuples with tags, and returns it.
func (b *builder) addTagged(tags []int) int {
	union := b.add(api.TUnion, b.add(api.TNil))
	for _, tag := range tags {
		tuple := b.add(api.TTuple, tag, union, union)
		b.Nodes[union].Kids = append(b.Nodes[union].Kids, tuple)
	}
	return union
}

// R1: large types that are alike.
func TestTags(t *testing.T) {
	b := &builder{}
	tags := b.addAtoms(40)
	first, second, third := b.addTagged(tags), b.addTagged(tags), b.addTagged(tags[:39])
	last := b.add(api.TTuple, tags[39], third, third)
	mustBeWellFormed(t, b.Type)
	expect(t, "the same tags", b.Type, both(only(first), second), 0)
	expect(t, "fewer tags", b.Type, both(only(third), second), 0)
	expect(t, "one tag more", b.Type, both(only(first), third), 2)
	expect(t, "one tag more, deeper", b.Type, both(only(second), third, last), 3)
}

// R1: lists of unions less lists of single elements. A list that is in none of these has two elements that differ.
func TestListsOfUnions(t *testing.T) {
	b := &builder{}
	atoms := b.addAtoms(6)
	var neg []int
	for _, n := range atoms {
		neg = append(neg, b.addList(n))
	}
	all := b.addList(b.add(api.TUnion, atoms...))
	mustBeWellFormed(t, b.Type)
	expect(t, "two elements", b.Type, both(only(all), neg...), 3)
	expect(t, "other atoms", b.Type, both(only(all), neg[1:]...), 2)
	expect(t, "the list", b.Type, both(only(all), append(neg, all)...), 0)
	expect(t, "the empty list", b.Type, in(neg...), 1)
	expect(t, "another list", b.Type, both(neg[:2], neg[2]), 0)
}

// R1: functions that are intersections, less functions of unions.
func TestIntersectionsOfFunctions(t *testing.T) {
	b := &builder{}
	atoms := b.addAtoms(12)
	var pos []int
	for _, n := range atoms {
		pos = append(pos, b.add(api.TFun, n, n))
	}
	union, some := b.add(api.TUnion, atoms...), b.add(api.TUnion, atoms[:5]...)
	same, fewer, wider := b.add(api.TFun, union, union), b.add(api.TFun, some, some), b.add(api.TFun, b.add(api.TAtoms), union)
	mustBeWellFormed(t, b.Type)
	expect(t, "the union", b.Type, both(pos, same), 0)
	expect(t, "a part of it", b.Type, both(pos, fewer), 0)
	expect(t, "one function less", b.Type, both(pos[1:], same), 2)
	expect(t, "more arguments", b.Type, both(pos, wider), 2)
	expect(t, "narrower results", b.Type, both(only(same), pos...), 2)
}
