package arrow_test

import (
	"math/rand"
	"slices"
	"testing"

	"semtype/api"
	"semtype/arrow"
	"semtype/member"
	"semtype/samples"
	"semtype/value"
)

// P12.4: the entries of one, two and several functions, each once and in ascending order, without labels at the root.
func TestMerge(t *testing.T) {
	l := func(l ...api.Value) []api.Value { return l }
	f, g := fun(1, maps(one, a), fails(ten)), fun(1, maps(one, b), maps(a, a), fails(ten))
	labelled := fun(1, maps(label(one, "A"), label(a, "B")))
	for i, c := range []struct {
		l      []api.Value
		wanted api.Value
	}{
		{l(fun(0)), fun(0)},
		{l(fun(4), fun(4), fun(4)), fun(4)},
		{l(f), f},
		{l(f, f), f},
		{l(f, g), fun(1, maps(one, a), maps(one, b), maps(a, a), fails(ten))},
		{l(g, f), fun(1, maps(one, a), maps(one, b), maps(a, a), fails(ten))},
		{l(f, fun(1), g, f), fun(1, maps(one, a), maps(one, b), maps(a, a), fails(ten))},
		{l(fun(1), f), f},
		{l(fun(0, maps(one)), fun(0, fails()), fun(0, maps(a))), fun(0, fails(), maps(one), maps(a))},
		{l(fun(1, maps(one, a)), fun(1, fails(one))), fun(1, maps(one, a), fails(one))},
		{l(label(f, "A")), f},
		{l(label(f, "A", "B"), label(fun(1), "C")), f},
		{l(label(fun(0), "A"), fun(0)), fun(0)},
		{l(labelled, fun(1, maps(one, a))), fun(1, maps(one, a), maps(label(one, "A"), label(a, "B")))},
		{l(label(labelled, "A"), labelled), labelled},
		{l(fun(2, maps(one, a, b), fails(b, b)), fun(2, maps(a, one, b)), fun(2, fails(a, a))), fun(2, fails(a, a), fails(b, b), maps(a, one, b), maps(one, a, b))},
		{l(fun(4, maps(one, one, one, one, f)), fun(4, maps(one, one, one, one, label(f, "A")))), fun(4, maps(one, one, one, one, f), maps(one, one, one, one, label(f, "A")))},
	} {
		v, code := arrow.Merge(c.l...)
		if !value.Equal(v, c.wanted) || code != api.OK || value.Validate(v) != api.OK {
			t.Error(i, v, code)
		}
	}
}

// P12.4: no functions, values that are not valid or of another kind, and functions of several arities, wherever they stand.
func TestInvalidMerge(t *testing.T) {
	isInvalid := func(l ...api.Value) {
		t.Helper()
		if v, code := arrow.Merge(l...); code != api.ErrInvalid || show(v) != show(api.Value{}) {
			t.Error(l, v, code)
		}
	}
	isInvalid()
	isInvalid([]api.Value{}...)
	good := fun(1, maps(one, a))
	bad := slices.Concat(samples.InvalidValues(), []api.Value{one, value.String("a"), a, value.Pid(0), value.Nil(), value.Tuple(good), value.List(good), samples.Dict("a", good)})
	bad = append(bad, samples.Simple()...)
	for _, v := range append(bad, fun(2), fun(4, fails(a, a, a, a))) {
		isInvalid(v, good)
		isInvalid(good, v)
		isInvalid(good, good, v, good)
		if v.Kind != api.VFun || value.Validate(v) != api.OK {
			isInvalid(v)
			isInvalid(v, v)
		}
	}
	for m := range api.MaxArity + 1 {
		for n := range api.MaxArity + 1 {
			if m != n {
				isInvalid(fun(m), fun(n))
				isInvalid(fun(m), fun(m), fun(n))
				isInvalid(fun(n), fun(m), label(fun(m), "A"))
			}
		}
	}
}

// P12.4: a function node, or a conjunction of some, has the merged function exactly if it has each one; and the merged one has their entries only.
func TestMergedMembers(t *testing.T) {
	x := zoo(t)
	r := rand.New(rand.NewSource(5))
	found := map[bool]int{}
	for arity := range api.MaxArity + 1 {
		all, nodes := entries(arity), functions(x, arity)
		for range 1500 {
			var l []api.Value
			for range 1 + r.Intn(3) {
				v := fun(arity)
				for range r.Intn(3) {
					v = fun(arity, append(v.Entries, all[r.Intn(len(all))])...)
				}
				l = append(l, label(v, [][]string{nil, {"A"}, {"A", "B"}}[r.Intn(3)]...))
			}
			merged, code := arrow.Merge(l...)
			if code != api.OK || value.Validate(merged) != api.OK || merged.Int != int64(arity) || len(merged.Labels) > 0 {
				t.Fatal(l, merged, code)
			}
			n := nodes[r.Intn(len(nodes))]
			is := !slices.ContainsFunc(l, func(v api.Value) bool { return !member.MemberOf(v, x, n) })
			if found[is]++; member.MemberOf(merged, x, n) != is {
				t.Fatal(l, merged, x.Nodes[n])
			}
			for _, e := range merged.Entries {
				has := func(v api.Value) bool {
					return slices.ContainsFunc(v.Entries, func(own api.Entry) bool { return show(own) == show(e) })
				}
				if !slices.ContainsFunc(l, has) {
					t.Fatal(l, merged, e)
				}
			}
		}
	}
	if found[true] < 1000 || found[false] < 1000 {
		t.Error(found)
	}
}

// Example 2: a function that no node of several allows is made of functions each of which one does not allow.
func TestExampleMerge(t *testing.T) {
	x := zoo(t)
	pos, neg := only(fiveToInteger), only(digitToAtom, atomToEither)
	v := fun(1, maps(one, one))
	w := fun(1, fails(a))
	merged, code := arrow.Merge(v, w)
	if code != api.OK {
		t.Fatal(code)
	}
	for _, n := range pos {
		if !member.MemberOf(v, x, n) || !member.MemberOf(w, x, n) || !member.MemberOf(merged, x, n) {
			t.Error(n)
		}
	}
	if !member.MemberOf(v, x, neg[1]) || !member.MemberOf(w, x, neg[0]) {
		t.Error("one function violates both")
	}
	for _, n := range neg {
		if member.MemberOf(merged, x, n) {
			t.Error(n)
		}
	}
}
