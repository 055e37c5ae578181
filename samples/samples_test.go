package samples_test

import (
	"math/rand"
	"slices"
	"testing"

	"semtype/api"
	"semtype/samples"
	"semtype/typeexpr"
	"semtype/value"
)

func TestValues(t *testing.T) {
	kinds := map[int]int{}
	labels := map[int]map[int]bool{}
	for _, v := range samples.Values() {
		if value.Validate(v) != api.OK {
			t.Error(v)
		}
		if kinds[v.Kind]++; labels[v.Kind] == nil {
			labels[v.Kind] = map[int]bool{}
		}
		labels[v.Kind][len(v.Labels)] = true
	}
	for kind := api.VInt; kind <= api.VFun; kind++ {
		if kinds[kind] < 3 || len(labels[kind]) < 3 {
			t.Error(kind, kinds[kind], labels[kind])
		}
	}
}

func TestInvalidValues(t *testing.T) {
	for i, v := range samples.InvalidValues() {
		if value.Validate(v) == api.OK {
			t.Error(i, v)
		}
	}
}

func TestInvalidTypes(t *testing.T) {
	for i, x := range samples.InvalidTypes() {
		if typeexpr.WellFormed(x) == api.OK {
			t.Error(i, x)
		}
	}
}

func TestRandomTypes(t *testing.T) {
	r := rand.New(rand.NewSource(1))
	kinds := map[int]int{}
	for range 300 {
		size := 1 + r.Intn(9)
		x := samples.RandomType(r, size)
		if typeexpr.WellFormed(x) != api.OK || len(x.Nodes) != size {
			t.Error(size, x)
		}
		for _, node := range x.Nodes {
			kinds[node.Kind]++
		}
	}
	for kind := api.TNone; kind <= api.TVar; kind++ {
		if kinds[kind] < 10 {
			t.Error(kind, kinds[kind])
		}
	}
}

func TestMembers(t *testing.T) {
	x := samples.Graph(samples.Range(0, 9), samples.Node(api.TTuple, 0), samples.Node(api.TAny))
	one, two, list := value.Int(1), value.Tuple(value.Int(2)), value.Nil()
	m := samples.NewMembers(x, []api.Value{one, two, list})
	for i, c := range []struct {
		g      api.Goal
		wanted []api.Value
	}{
		{api.Goal{}, []api.Value{one, two, list}},
		{api.Goal{Pos: []int{2, 0}}, []api.Value{one}},
		{api.Goal{Pos: []int{1}}, []api.Value{two}},
		{api.Goal{Neg: []int{1}}, []api.Value{one, list}},
		{api.Goal{Pos: []int{2}, Neg: []int{0}, Lists: true}, []api.Value{list}},
		{api.Goal{Pos: []int{2}, Neg: []int{2}}, nil},
	} {
		for range 2 {
			if l := m.Of(c.g); !slices.EqualFunc(l, c.wanted, value.Equal) {
				t.Error(i, l)
			}
		}
	}
}
