package samples_test

import (
	"math/rand"
	"testing"

	"semtype/api"
	"semtype/samples"
	"semtype/typeexpr"
	"semtype/value"
)

func TestValues(t *testing.T) {
	kinds := map[int]int{}
	labels := map[int]map[int]bool{}
	for _, v := range samples.Values() {
		if value.Validate(v) != api.OK {
			t.Error(v)
		}
		if kinds[v.Kind]++; labels[v.Kind] == nil {
			labels[v.Kind] = map[int]bool{}
		}
		labels[v.Kind][len(v.Labels)] = true
	}
	for kind := api.VInt; kind <= api.VFun; kind++ {
		if kinds[kind] < 3 || len(labels[kind]) < 3 {
			t.Error(kind, kinds[kind], labels[kind])
		}
	}
}

func TestInvalidValues(t *testing.T) {
	for i, v := range samples.InvalidValues() {
		if value.Validate(v) == api.OK {
			t.Error(i, v)
		}
	}
}

func TestInvalidTypes(t *testing.T) {
	for i, x := range samples.InvalidTypes() {
		if typeexpr.WellFormed(x) == api.OK {
			t.Error(i, x)
		}
	}
}

func TestRandomTypes(t *testing.T) {
	r := rand.New(rand.NewSource(1))
	kinds := map[int]int{}
	for range 300 {
		size := 1 + r.Intn(9)
		x := samples.RandomType(r, size)
		if typeexpr.WellFormed(x) != api.OK || len(x.Nodes) != size {
			t.Error(size, x)
		}
		for _, node := range x.Nodes {
			kinds[node.Kind]++
		}
	}
	for kind := api.TNone; kind <= api.TVar; kind++ {
		if kinds[kind] < 10 {
			t.Error(kind, kinds[kind])
		}
	}
}
