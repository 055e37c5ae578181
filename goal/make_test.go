package goal_test

import (
	"math"
	"math/rand"
	"slices"
	"strings"
	"testing"

	"semtype/api"
	"semtype/goal"
	"semtype/samples"
	"semtype/value"
)

// P13.1: alternatives of each kind, with and without labels, with no, one and several members.
func TestMake(t *testing.T) {
	labelled := label(ten, "B")
	for i, c := range []struct {
		a       api.Alternative
		members []api.Value
		wanted  api.Value
	}{
		{api.Alternative{Leaf: value.Int(least)}, nil, value.Int(least)},
		{api.Alternative{Leaf: label(ten, "A", "B")}, nil, label(ten, "A", "B")},
		{api.Alternative{Leaf: value.String("")}, nil, value.String("")},
		{api.Alternative{Leaf: label(value.String("a\x00"), "B")}, nil, label(value.String("a\x00"), "B")},
		{api.Alternative{Leaf: a}, nil, a},
		{api.Alternative{Leaf: label(b, "A")}, nil, label(b, "A")},
		{api.Alternative{Leaf: value.Pid(7)}, nil, value.Pid(7)},
		{api.Alternative{Leaf: label(value.Pid(0), "A")}, nil, label(value.Pid(0), "A")},
		{api.Alternative{Leaf: empty}, nil, empty},
		{api.Alternative{Leaf: label(empty, "A", "B")}, nil, label(empty, "A", "B")},
		{api.Alternative{Leaf: one, Subgoals: free(2)}, []api.Value{a, b}, one},

		{api.Alternative{Leaf: leafOf(api.VTuple)}, nil, tuple()},
		{api.Alternative{Leaf: leafOf(api.VTuple, "A")}, nil, label(tuple(), "A")},
		{api.Alternative{Leaf: leafOf(api.VTuple), Subgoals: free(1)}, []api.Value{labelled}, tuple(labelled)},
		{api.Alternative{Leaf: leafOf(api.VTuple, "A", "B"), Subgoals: free(4)}, []api.Value{one, a, one, tuple(a)}, label(tuple(one, a, one, tuple(a)), "A", "B")},
		{api.Alternative{Leaf: leafOf(api.VCons), Subgoals: free(2)}, []api.Value{one, empty}, value.List(one)},
		{api.Alternative{Leaf: leafOf(api.VCons, "A"), Subgoals: free(2)}, []api.Value{empty, label(value.List(a), "B")}, label(value.Cons(empty, label(value.List(a), "B")), "A")},

		{api.Alternative{Leaf: leafOf(api.VMap)}, nil, dict()},
		{api.Alternative{Leaf: leafOf(api.VMap, "B")}, nil, label(dict(), "B")},
		{api.Alternative{Leaf: leafOf(api.VMap), Keys: keys("a"), Subgoals: free(1)}, []api.Value{labelled}, dict("a", labelled)},
		{api.Alternative{Leaf: leafOf(api.VMap), Keys: keys("a", "b", "\"", "\"a"), Subgoals: free(4)}, []api.Value{one, a, b, ten}, dict("a", one, "b", a, "\"", b, "\"a", ten)},
		{api.Alternative{Leaf: leafOf(api.VMap, "A", "C"), Keys: keys("\"b", "b", "\"a", "a"), Subgoals: free(4)}, []api.Value{one, a, b, ten}, label(dict("a", ten, "b", a, "\"a", b, "\"b", one), "A", "C")},

		{api.Alternative{Leaf: functionLeaf(0)}, nil, fun(0)},
		{api.Alternative{Leaf: functionLeaf(4, "A")}, nil, label(fun(4), "A")},
		{api.Alternative{Leaf: functionLeaf(2), Subgoals: free(3)}, []api.Value{one, a, b}, fun(2)},
		{api.Alternative{Leaf: functionLeaf(0), Forms: []api.Form{failing()}}, nil, fun(0, fails())},
		{api.Alternative{Leaf: functionLeaf(0), Forms: []api.Form{form(0)}, Subgoals: free(1)}, []api.Value{labelled}, fun(0, maps(labelled))},
		{api.Alternative{Leaf: functionLeaf(1), Forms: []api.Form{form(0, 1)}, Subgoals: free(2)}, []api.Value{one, a}, fun(1, maps(one, a))},
		{api.Alternative{Leaf: functionLeaf(1), Forms: []api.Form{form(1, 0)}, Subgoals: free(2)}, []api.Value{one, a}, fun(1, maps(a, one))},
		{api.Alternative{Leaf: functionLeaf(1), Forms: []api.Form{form(1, 1)}, Subgoals: free(2)}, []api.Value{a, one}, fun(1, maps(one, one))},
		{api.Alternative{Leaf: functionLeaf(1), Forms: []api.Form{failing(0), failing(1)}, Subgoals: free(2)}, []api.Value{a, one}, fun(1, fails(one), fails(a))},
		{api.Alternative{Leaf: functionLeaf(1), Forms: []api.Form{failing(0), failing(1)}, Subgoals: free(2)}, []api.Value{one, one}, fun(1, fails(one))},
		{api.Alternative{Leaf: functionLeaf(1), Forms: []api.Form{form(0, 1), failing(0), form(0, 0), form(0, 1)}, Subgoals: free(2)}, []api.Value{one, a}, fun(1, fails(one), maps(one, one), maps(one, a))},
		{api.Alternative{Leaf: functionLeaf(1), Forms: []api.Form{failing(0), failing(1)}, Subgoals: free(2)}, []api.Value{one, label(one, "A")}, fun(1, fails(one), fails(label(one, "A")))},
		{api.Alternative{Leaf: functionLeaf(3, "A", "B"), Forms: []api.Form{form(2, 2, 0, 1), failing(0, 1, 2)}, Subgoals: free(3)}, []api.Value{one, a, fun(1)}, label(fun(3, fails(one, a, fun(1)), maps(fun(1), fun(1), one, a)), "A", "B")},
		{api.Alternative{Leaf: functionLeaf(4), Forms: []api.Form{form(0, 1, 2, 3, 4)}, Subgoals: free(5)}, []api.Value{one, a, b, ten, empty}, fun(4, maps(one, a, b, ten, empty))},
	} {
		v, code := goal.Make(c.a, c.members...)
		if code != api.OK || !value.Equal(v, c.wanted) || value.Validate(v) != api.OK {
			t.Errorf("%d: %+v %v", i, v, code)
		}
	}
}

// P13.1: what a kind does not use is ignored.
func TestIgnored(t *testing.T) {
	bad := []api.Form{failing(-1), form(9), {Args: []int{0, 0, 0, 0, 0, 0}, Result: 99}}
	wrong := []api.Key{{Kind: 7}, key("a"), key("a"), key("A")}
	for i, c := range []struct {
		a      api.Alternative
		number int
		wanted api.Value
	}{
		{api.Alternative{Leaf: one, Forms: bad, Keys: wrong}, 0, one},
		{api.Alternative{Leaf: label(a, "A"), Forms: bad, Keys: wrong, Subgoals: free(1)}, 1, label(a, "A")},
		{api.Alternative{Leaf: leafOf(api.VTuple), Forms: bad, Keys: wrong, Subgoals: free(2)}, 2, tuple(empty, empty)},
		{api.Alternative{Leaf: leafOf(api.VCons), Forms: bad, Keys: wrong, Subgoals: free(2)}, 2, value.List(empty)},
		{api.Alternative{Leaf: leafOf(api.VMap), Forms: bad, Keys: keys("a"), Subgoals: free(1)}, 1, dict("a", empty)},
		{api.Alternative{Leaf: functionLeaf(0), Forms: []api.Form{{Fails: true, Result: 99}, {Fails: true, Result: least}}, Keys: wrong}, 0, fun(0, fails())},
		{api.Alternative{Leaf: functionLeaf(1), Forms: []api.Form{{Args: only(0), Fails: true, Result: -1}}, Keys: wrong, Subgoals: free(1)}, 1, fun(1, fails(empty))},
		{api.Alternative{Leaf: api.Value{Kind: api.VTuple, Int: 7, Text: "A", Kids: []api.Value{one, {}}, Keys: wrong, Entries: []api.Entry{{}}}}, 0, tuple()},
		{api.Alternative{Leaf: api.Value{Kind: api.VCons, Int: -1, Kids: []api.Value{one}, Labels: []string{"A"}}, Subgoals: free(2)}, 2, label(value.List(empty), "A")},
		{api.Alternative{Leaf: api.Value{Kind: api.VMap, Text: "a", Kids: []api.Value{one}, Keys: wrong}}, 0, dict()},
		{api.Alternative{Leaf: api.Value{Kind: api.VFun, Int: 2, Text: "a", Kids: []api.Value{one}, Keys: wrong, Entries: []api.Entry{{}}}}, 0, fun(2)},
		{api.Alternative{Leaf: leafOf(api.VTuple), Subgoals: []api.Goal{both(only(-1, 5), 9, 3), {Lists: true}}}, 2, tuple(empty, empty)},
	} {
		v, code := goal.Make(c.a, slices.Repeat([]api.Value{empty}, c.number)...)
		if code != api.OK || !value.Equal(v, c.wanted) {
			t.Errorf("%d: %+v %v", i, v, code)
		}
	}
	for _, v := range samples.InvalidValues() {
		for _, a := range []api.Alternative{{Leaf: one, Subgoals: free(1)}, {Leaf: functionLeaf(0), Subgoals: free(1)}, {Leaf: functionLeaf(0), Forms: []api.Form{{Fails: true}}, Subgoals: free(1)}} {
			if w, code := goal.Make(a, v); code != api.OK || !isDescribed(w, a, []api.Value{v}) {
				t.Error(a, v, code)
			}
		}
	}
}

// refuse checks that Make returns ErrInvalid and no value.
func refuse(t *testing.T, a api.Alternative, members ...api.Value) {
	t.Helper()
	if v, code := goal.Make(a, members...); code != api.ErrInvalid || show(v) != show(api.Value{}) {
		t.Errorf("%+v with %+v: %+v %v", a, members, v, code)
	}
}

// P13.1: fewer and more members than Subgoals.
func TestMembersThatAreMissing(t *testing.T) {
	for _, leaf := range []api.Value{one, a, value.String("a"), value.Pid(1), empty, leafOf(api.VTuple), leafOf(api.VCons), leafOf(api.VMap), functionLeaf(0), functionLeaf(2), {}} {
		for subgoals := range 5 {
			for members := range 5 {
				if members != subgoals {
					refuse(t, api.Alternative{Leaf: leaf, Keys: keys("a", "b", "c", "d")[:members], Subgoals: free(subgoals)}, slices.Repeat([]api.Value{empty}, members)...)
				}
			}
		}
	}
}

// P13.1: fewer and more Keys than Subgoals, Keys that are not valid or there twice.
func TestInvalidKeys(t *testing.T) {
	all := keys("d", "\"b", "a", "\"a", "c")
	for number := range 5 {
		for subgoals := range 5 {
			a := api.Alternative{Leaf: leafOf(api.VMap, "A"), Keys: all[:number], Subgoals: free(subgoals)}
			members := slices.Repeat([]api.Value{one}, subgoals)
			if number != subgoals {
				refuse(t, a, members...)
			} else if v := mustMake(t, a, members...); !isDescribed(v, a, members) {
				t.Error(v)
			}
		}
	}
	for _, l := range [][]api.Key{keys("a", "a"), keys("b", "\"a", "b"), keys("\"", "a", "\""), keys(""), keys("A"), keys("a", "\""+strings.Repeat("x", api.MaxText+1)), {{Kind: 2, Text: "a"}}, {{Kind: -1}}} {
		refuse(t, api.Alternative{Leaf: leafOf(api.VMap), Keys: l, Subgoals: free(len(l))}, slices.Repeat([]api.Value{one}, len(l))...)
	}
}

// P13.1: Args, and the Result of a form that does not fail, that are not the index of a member.
func TestIndicesOfNoMember(t *testing.T) {
	for number := range 4 {
		members := slices.Repeat([]api.Value{empty}, number)
		for _, n := range only(-1, least, number, number+1, greatest) {
			for _, forms := range [][]api.Form{{failing(n)}, {form(n, 0)}, {form(0, n)}, {form(0, 0), form(0, n)}, {failing(n), failing(0)}, {form(n, n)}} {
				refuse(t, api.Alternative{Leaf: functionLeaf(1), Forms: forms, Subgoals: free(number)}, members...)
			}
			refuse(t, api.Alternative{Leaf: functionLeaf(0), Forms: []api.Form{form(n)}, Subgoals: free(number)}, members...)
			refuse(t, api.Alternative{Leaf: functionLeaf(3), Forms: []api.Form{failing(0, 0, n)}, Subgoals: free(number)}, members...)
		}
	}
}

// P13.1: results that are not valid.
func TestInvalidResults(t *testing.T) {
	for _, v := range samples.InvalidValues() {
		if v.Kind < api.VTuple || v.Kind > api.VFun {
			refuse(t, api.Alternative{Leaf: v})
		}
		refuse(t, api.Alternative{Leaf: leafOf(api.VTuple), Subgoals: free(2)}, one, v)
		refuse(t, api.Alternative{Leaf: leafOf(api.VCons), Subgoals: free(2)}, v, empty)
		refuse(t, api.Alternative{Leaf: leafOf(api.VCons), Subgoals: free(2)}, one, v)
		refuse(t, api.Alternative{Leaf: leafOf(api.VMap), Keys: keys("a"), Subgoals: free(1)}, v)
		refuse(t, api.Alternative{Leaf: functionLeaf(1), Forms: []api.Form{failing(0)}, Subgoals: free(1)}, v)
		refuse(t, api.Alternative{Leaf: functionLeaf(1), Forms: []api.Form{form(1, 0)}, Subgoals: free(2)}, v, one)
	}
	leaves := []api.Value{one, value.String(""), a, value.Pid(0), empty, leafOf(api.VTuple), leafOf(api.VMap), functionLeaf(0)}
	for _, labels := range [][]string{{"B", "A"}, {"A", "A"}, {"a"}, {""}, {"A", "b"}} {
		for _, leaf := range leaves {
			leaf.Labels = labels
			refuse(t, api.Alternative{Leaf: leaf})
		}
		refuse(t, api.Alternative{Leaf: leafOf(api.VCons, labels...), Subgoals: free(2)}, one, empty)
	}
	for _, kind := range []int{0, -1, api.VFun + 1, math.MinInt, math.MaxInt} {
		refuse(t, api.Alternative{Leaf: leafOf(kind)})
		refuse(t, api.Alternative{Leaf: leafOf(kind), Subgoals: free(1)}, one)
	}
	for _, leaf := range []api.Value{{Kind: api.VInt, Text: "a"}, {Kind: api.VNil, Int: 1}, {Kind: api.VAtom, Text: "a", Kids: []api.Value{one}}, {Kind: api.VPid, Int: -1}, {Kind: api.VString, Text: strings.Repeat("x", api.MaxText+1)}} {
		refuse(t, api.Alternative{Leaf: leaf})
	}
	refuse(t, api.Alternative{Leaf: leafOf(api.VTuple), Subgoals: free(5)}, one, one, one, one, one)
	for number := range 5 {
		if number != 2 {
			refuse(t, api.Alternative{Leaf: leafOf(api.VCons), Subgoals: free(number)}, slices.Repeat([]api.Value{empty}, number)...)
		}
	}
	for _, tail := range []api.Value{one, a, value.String(""), value.Pid(0), tuple(), dict(), fun(0), label(tuple(one, empty), "A")} {
		refuse(t, api.Alternative{Leaf: leafOf(api.VCons), Subgoals: free(2)}, one, tail)
	}
}

// P13.1: an arity that no function has, and forms with another number of arguments.
func TestInvalidFunctions(t *testing.T) {
	for _, arity := range []int64{-1, api.MaxArity + 1, math.MinInt64, math.MaxInt64, 1 << 32} {
		refuse(t, api.Alternative{Leaf: functionLeaf(arity)})
		refuse(t, api.Alternative{Leaf: functionLeaf(arity), Forms: []api.Form{failing()}})
		refuse(t, api.Alternative{Leaf: functionLeaf(arity), Forms: []api.Form{failing(0, 0, 0, 0, 0)}, Subgoals: free(1)}, one)
	}
	for arity := range api.MaxArity + 1 {
		for number := range api.MaxArity + 3 {
			args := make([]int, number)
			for _, f := range []api.Form{failing(args...), form(append(args, 0)...)} {
				a := api.Alternative{Leaf: functionLeaf(int64(arity)), Forms: []api.Form{f}, Subgoals: free(1)}
				if number != arity {
					refuse(t, a, empty)
					continue
				}
				if v := mustMake(t, a, empty); !isDescribed(v, a, []api.Value{empty}) {
					t.Error(v)
				}
				a.Forms = append(a.Forms, failing(append(args, 0)...))
				refuse(t, a, empty)
			}
		}
	}
}

// P13.1: random alternatives, most of which describe a value.
func TestRandomMake(t *testing.T) {
	r := rand.New(rand.NewSource(1))
	values := samples.Values()
	bad := samples.InvalidValues()
	found := map[api.Code]map[int]int{api.OK: {}, api.ErrInvalid: {}}
	for range 30000 {
		alt := randomAlternative(r)
		members := make([]api.Value, len(alt.Subgoals))
		isBad := false
		for i := range members {
			members[i] = values[r.Intn(len(values))]
			if r.Intn(40) == 0 {
				members[i], isBad = bad[r.Intn(len(bad))], true
			}
		}
		v, code := goal.Make(alt, members...)
		found[code][alt.Leaf.Kind]++
		if isPossible(alt, members) != (code == api.OK) && !isBad || code == api.OK && (value.Validate(v) != api.OK || !isDescribed(v, alt, members)) || code != api.OK && show(v) != show(api.Value{}) {
			t.Fatalf("%+v %+v: %+v %v", alt, members, v, code)
		}
	}
	for kind := api.VInt; kind <= api.VFun; kind++ {
		if found[api.OK][kind] < 100 || found[api.ErrInvalid][kind] < 100 {
			t.Error(kind, found[api.OK][kind], found[api.ErrInvalid][kind])
		}
	}
}

func randomAlternative(r *rand.Rand) api.Alternative {
	labels := [][]string{nil, {"A"}, {"A", "B"}, {"B", "A"}, {"a"}}[r.Intn(20)/4%5]
	alt := api.Alternative{Leaf: leafOf(api.VInt+r.Intn(api.VFun), labels...)}
	number := r.Intn(4)
	switch alt.Leaf.Kind {
	case api.VInt:
		alt.Leaf.Int = r.Int63()
	case api.VPid:
		alt.Leaf.Int = int64(r.Intn(4) - 1)
	case api.VString:
		alt.Leaf.Text = []string{"", "a", "A"}[r.Intn(3)]
	case api.VAtom:
		alt.Leaf.Text = []string{"a", "b", "A"}[r.Intn(3)]
	case api.VTuple:
		number = r.Intn(6)
	case api.VCons:
		number = 1 + (r.Intn(9)+3)/4
	case api.VMap:
		all := keys("a", "b", "c", "\"", "\"a", "\"b")
		r.Shuffle(len(all), func(i, k int) { all[i], all[k] = all[k], all[i] })
		alt.Keys = all[:max(0, number+r.Intn(9)/8)]
	case api.VFun:
		alt.Leaf.Int = int64(r.Intn(4))
		for range r.Intn(4) {
			f := api.Form{Fails: r.Intn(2) == 0, Result: r.Intn(number+1) - r.Intn(9)/8}
			for range int(alt.Leaf.Int) + r.Intn(20)/19 {
				f.Args = append(f.Args, r.Intn(number+1)-r.Intn(30)/29)
			}
			alt.Forms = append(alt.Forms, f)
		}
		number++
	}
	alt.Subgoals = free(number)
	return alt
}

// isPossible reports whether valid members make a value, by the words of P13.1 and P4.3.
func isPossible(alt api.Alternative, members []api.Value) bool {
	for i, name := range alt.Leaf.Labels {
		if name == "a" || i > 0 && alt.Leaf.Labels[i-1] >= name {
			return false
		}
	}
	switch alt.Leaf.Kind {
	case api.VAtom:
		return alt.Leaf.Text != "A"
	case api.VPid:
		return alt.Leaf.Int >= 0
	case api.VTuple:
		return len(members) <= api.MaxArity
	case api.VCons:
		return len(members) == 2 && (members[1].Kind == api.VNil || members[1].Kind == api.VCons)
	case api.VMap:
		return len(alt.Keys) == len(members)
	}
	isOther := func(n int) bool { return n < 0 || n >= len(members) }
	for _, f := range alt.Forms {
		if slices.ContainsFunc(f.Args, isOther) || !f.Fails && isOther(f.Result) || len(f.Args) != int(alt.Leaf.Int) {
			return false
		}
	}
	return true
}
