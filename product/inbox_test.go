package product_test

import (
	"math/rand"
	"testing"

	"semtype/api"
	"semtype/lines"
	"semtype/product"
	"semtype/samples"
	"semtype/value"
)

// P10.2: as many values as parts, each in its goal.
func TestInBox(t *testing.T) {
	x := graph(from(0, 9), kind(api.TAtoms), from(5, 5), kind(api.TNil), text(api.TVar, "A"), kind(api.TCons, 0, 3))
	mustBeWellFormed(t, x)
	digit, five, atom, all := part(only(0)), part(only(2)), part(only(1)), part(nil)
	not5 := part(only(0), 2)
	list := api.Goal{Lists: true}
	v := func(l ...api.Value) []api.Value { return l }
	one, a, empty := value.Int(1), value.Atom("a"), value.Nil()
	for i, c := range []struct {
		v  []api.Value
		b  api.Box
		is bool
	}{
		{nil, box(), true},
		{v(one), box(), false},
		{nil, box(all), false},
		{v(one), box(all), true},
		{v(one), box(all, all), false},
		{v(one, one), box(all), false},
		{v(one, a), box(digit, atom), true},
		{v(one, a), box(atom, digit), false},
		{v(one, one), box(digit, atom), false},
		{v(a, a), box(digit, atom), false},
		{v(one), box(not5), true},
		{v(value.Int(5)), box(not5), false},
		{v(value.Int(5)), box(five), true},
		{v(one, value.Int(5), a, empty), box(not5, five, atom, all), true},
		{v(one, value.Int(5), a, empty), box(not5, five, atom, digit), false},
		{v(one, one, one, one, one, a), box(digit, digit, digit, digit, digit, atom), true},
		{v(one, one, one, one, one, a), box(digit, digit, digit, digit, digit, digit), false},
		{v(empty), box(list), true},
		{v(one), box(list), false},
		{v(one, value.List(one)), box(digit, list), true},
		{v(value.List(one), one), box(digit, list), false},
		{v(value.List(one)), box(onlyLists(part(only(5)))), true},
		{v(value.List(one, one)), box(onlyLists(part(only(5)))), false},
		{v(value.List(one)), box(onlyLists(part(nil, 5))), false},
		{v(empty), box(onlyLists(part(nil, 5))), true},
		{v(one), box(onlyLists(part(nil, 5))), false},
		{v(label(a, "A")), box(part(only(4))), true},
		{v(a), box(part(only(4))), false},
		{v(label(a, "A")), box(part(nil, 4)), false},
		{v(one), box(part(only(2, 0, 0, 2), 1)), false},
		{v(value.Int(5)), box(part(only(2, 0, 0, 2), 1, 3, 1)), true},
	} {
		if product.InBox(c.v, x, c.b) != c.is {
			t.Error(i)
		}
	}
}

func onlyLists(g api.Goal) api.Goal {
	g.Lists = true
	return g
}

// P10.2: values that are not valid, types that are not well-formed and indices without nodes are in no goal; without values there is nothing to be in one.
func TestInvalidBoxes(t *testing.T) {
	x := graph(kind(api.TAny), kind(api.TNone))
	one := value.Int(1)
	for _, v := range samples.InvalidValues() {
		if product.InBox([]api.Value{v}, x, box(part(nil))) || product.InBox([]api.Value{one, v}, x, box(part(nil), part(nil, 1))) {
			t.Error(v)
		}
	}
	for _, x := range samples.InvalidTypes() {
		if product.InBox([]api.Value{one}, x, box(part(nil))) || product.InBox([]api.Value{one, one}, x, box(part(only(0)), part(nil))) {
			t.Error(x)
		}
		if !product.InBox(nil, x, box()) {
			t.Error(x)
		}
	}
	for _, n := range []int{-1, 2, least, greatest} {
		for _, b := range []api.Box{box(part(nil), part(only(n))), box(part(nil, n), part(nil)), box(part(only(0), 1, n), part(nil)), box(part(nil), part(only(n), n))} {
			if product.InBox([]api.Value{one, one}, x, b) {
				t.Error(n, b)
			}
		}
	}
}

// P10.2: random values and boxes.
func TestRandomBoxes(t *testing.T) {
	all, r := samples.Values(), rand.New(rand.NewSource(12))
	found := map[bool]int{}
	for range 2000 {
		x := samples.RandomType(r, 1+r.Intn(8))
		var v []api.Value
		for range r.Intn(6) {
			v = append(v, all[r.Intn(len(all))])
		}
		var b api.Box
		for i := range max(0, len(v)+r.Intn(3)/2*(r.Intn(3)-1)) {
			g := part(someNodes(r, x, 1), someNodes(r, x, 1)...)
			g.Lists = i < len(v) && (v[i].Kind == api.VNil || v[i].Kind == api.VCons || r.Intn(8) == 0)
			b.Parts = append(b.Parts, g)
		}
		is := len(v) == len(b.Parts)
		for i := 0; is && i < len(v); i++ {
			is = lines.InGoal(v[i], x, b.Parts[i])
		}
		if found[is]++; product.InBox(v, x, b) != is {
			t.Fatal(v, x, b)
		}
	}
	if found[true] < 200 || found[false] < 500 {
		t.Error(found)
	}
}

func someNodes(r *rand.Rand, x api.Type, most int) (l []int) {
	for range r.Intn(most + 1) {
		l = append(l, r.Intn(len(x.Nodes)))
	}
	return l
}
