package witness_test

import (
	"testing"

	"semtype/api"
	"semtype/value"
)

// R8: chains of more nodes than a program may have in a type.
func TestChains(t *testing.T) {
	const number = 1000
	for i, c := range []struct {
		link func(next int) api.TypeNode
		near api.Code
		far  api.Code
	}{
		{func(next int) api.TypeNode { return kind(api.TTuple, 1, next) }, api.OK, api.ErrLimit},
		{func(next int) api.TypeNode { return kind(api.TCons, 1, next) }, api.OK, api.ErrLimit},
		{func(next int) api.TypeNode { return record(0, 0, field("a", next), optional("b", next)) }, api.OK, api.ErrLimit},
		{func(next int) api.TypeNode { return kind(api.TUnion, 0, next) }, api.OK, api.OK},
		{func(next int) api.TypeNode { return kind(api.TNot, next) }, api.OK, api.OK},
	} {
		x := graph(kind(api.TNone), kind(api.TNil))
		for range number {
			x.Nodes = append(x.Nodes, c.link(len(x.Nodes)-1))
		}
		mustBeWellFormed(t, x)
		last := len(x.Nodes) - 1
		if _, code := leastOf(t, x, in(api.MaxHeight)); code != c.near {
			t.Error(i, code)
		}
		if _, code := leastOf(t, x, in(last)); code != c.far {
			t.Error(i, code)
		}
		expectCode(t, i, x, in(last, 0), api.ErrEmpty)
		expectCode(t, i, x, both(only(last), last), api.ErrEmpty)
	}
}

// A chain of cycles: the members of each node contain some of the one before.
func TestChainOfCycles(t *testing.T) {
	b := builder{graph(kind(api.TUnion, 1, 2), kind(api.TNil), kind(api.TTuple, 0, 0))}
	before := 0
	for n := range 60 {
		tree := b.add(api.TUnion)
		b.Nodes[tree].Kids = only(b.add(api.TTuple, before, tree), b.add(api.TTuple, tree, before), b.add(api.TTuple, before))
		mustBeWellFormed(t, b.Type)
		expect(t, n, b.Type, in(tree), n+2)
		if n < 6 {
			expect(t, n, b.Type, both(only(tree), before), n+2)
		}
		before = tree
	}
}

// R8: tuples, maps and functions with many parts.
func TestManyParts(t *testing.T) {
	b, next := start(), 2
	for height := 1; height <= api.MaxHeight; height++ {
		mustBeWellFormed(t, b.Type)
		expect(t, "tuples", b.Type, in(next), height)
		next = b.add(api.TTuple, next, next, next, next)
	}
	pairs := b.addNode(record(0, 0, fields(40, b.addNode(record(0, 0, fields(40, 2)...)))...))
	var neg []int
	for i := range 50 {
		number := b.addNode(from(int64(i), int64(i)))
		neg = append(neg, b.add(api.TFun, b.add(api.TTuple, number), 1))
	}
	mustBeWellFormed(t, b.Type)
	if v := expect(t, "maps", b.Type, in(pairs), 3); value.Nodes(v) != 1+40+40*40 {
		t.Error(value.Nodes(v))
	}
	if v := expect(t, "functions", b.Type, both(only(4), neg...), 3); len(v.Entries) < len(neg) {
		t.Error(len(v.Entries))
	}
}

// fields returns this many fields with the same node.
func fields(number, node int) (l []api.Field) {
	for i := range number {
		l = append(l, field(nameOf(i), node))
	}
	return l
}

// nameOf returns a name of three letters. Names are ascending.
func nameOf(i int) string {
	return string([]byte{'a' + byte(i/26/26), 'a' + byte(i/26%26), 'a' + byte(i%26)})
}

// A value with so many nodes that no computer holds it is not made where one with few is as low, or where it is of no use.
func TestFewNodes(t *testing.T) {
	for _, number := range only(600, 7000) {
		b := start()
		wide, narrow := only(2), only(2)
		for i := range api.MaxHeight - 1 {
			wide = append(wide, b.addNode(record(0, 0, fields(number, wide[i])...)))
			narrow = append(narrow, b.addNode(record(0, 0, fields(1, narrow[i])...)))
		}
		last := api.MaxHeight - 1
		for i, n := range only(
			b.add(api.TUnion, wide[last], narrow[last]), b.add(api.TUnion, narrow[last], wide[last]), b.add(api.TTuple, b.add(api.TUnion, wide[last-1], narrow[last-1])),
			b.add(api.TUnion, b.add(api.TTuple, wide[last-1], b.addLoop()), narrow[last]), b.add(api.TUnion, narrow[last], b.addNode(record(0, 0, field("a", wide[last-1]), field("b", b.addLoop())))),
		) {
			mustBeWellFormed(t, b.Type)
			if v := expect(t, i, b.Type, in(n), api.MaxHeight); value.Nodes(v) != api.MaxHeight {
				t.Error(i, value.Nodes(v))
			}
		}
	}
}

// addLoop adds a type without members.
func (b *builder) addLoop() int { return b.add(api.TTuple, len(b.Nodes)) }

// addTagged adds a recursive type of tuples with tags, and returns it.
func (b *builder) addTagged(tags []int) int {
	union := b.add(api.TUnion, 2)
	for _, tag := range tags {
		tuple := b.add(api.TTuple, tag, union, union)
		b.Nodes[union].Kids = append(b.Nodes[union].Kids, tuple)
	}
	return union
}

// R1: large types that are alike.
func TestTags(t *testing.T) {
	b := start()
	var tags []int
	for i := range 40 {
		tags = append(tags, b.addNode(text(api.TAtom, "t"+show(i))))
	}
	first, second := b.addTagged(tags), b.addTagged(tags[:39])
	shallow := b.add(api.TTuple, tags[39], second, second)
	mustBeWellFormed(t, b.Type)
	expect(t, "fewer tags", b.Type, both(only(second), first), 0)
	expectValue(t, "one tag more", b.Type, both(only(first), second), value.Tuple(value.Atom("t39"), value.Nil(), value.Nil()))
	expect(t, "one tag more, deeper", b.Type, both(only(first), second, shallow), 3)
}

// R1: functions that are intersections, less functions of unions.
func TestIntersectionsOfFunctions(t *testing.T) {
	b := start()
	var atoms, pos []int
	for i := range 12 {
		n := b.addNode(text(api.TAtom, "t"+show(i)))
		atoms, pos = append(atoms, n), append(pos, b.add(api.TFun, n, n))
	}
	union := b.add(api.TUnion, atoms...)
	same, wider := b.add(api.TFun, union, union), b.add(api.TFun, b.add(api.TAtoms), union)
	mustBeWellFormed(t, b.Type)
	expect(t, "the union", b.Type, both(pos, same), 0)
	expect(t, "one function less", b.Type, both(pos[1:], same), 2)
	expect(t, "more arguments", b.Type, both(pos, wider), 2)
	expect(t, "narrower results", b.Type, both(only(same), pos...), 2)
}
