package member_test

import (
	"math"
	"strings"
	"testing"

	"semtype/api"
	"semtype/value"
)

const (
	least    = math.MinInt64
	greatest = math.MaxInt64
)

// graph returns the type with these nodes whose root is the first one.
func graph(l ...api.TypeNode) api.Type { return api.Type{Nodes: l} }

func kind(k int, kids ...int) api.TypeNode { return api.TypeNode{Kind: k, Kids: kids} }

func text(k int, s string) api.TypeNode { return api.TypeNode{Kind: k, Text: s} }

func from(lo, hi int64) api.TypeNode { return api.TypeNode{Kind: api.TInt, Lo: lo, Hi: hi} }

func record(atoms, strings int, fields ...api.Field) api.TypeNode {
	return api.TypeNode{Kind: api.TMap, Fields: fields, Rest: [2]int{atoms, strings}}
}

func field(name string, node int) api.Field { return api.Field{Key: key(name), Node: node} }

func optional(name string, node int) api.Field {
	return api.Field{Key: key(name), Node: node, Optional: true}
}

// key returns an atom key, or a string key if s begins with a quote.
func key(s string) api.Key {
	if text, quoted := strings.CutPrefix(s, "\""); quoted {
		return api.Key{Kind: api.KeyString, Text: text}
	}
	return api.Key{Kind: api.KeyAtom, Text: s}
}

// dict takes pairs of the name of a key and a value.
func dict(pairs ...any) api.Value {
	var keys []api.Key
	var l []api.Value
	for i := 0; i < len(pairs); i += 2 {
		keys, l = append(keys, key(pairs[i].(string))), append(l, pairs[i+1].(api.Value))
	}
	v, code := value.Map(keys, l)
	if code != api.OK {
		panic(code)
	}
	return v
}

func fun(arity int, l ...api.Entry) api.Value {
	v, code := value.Function(arity, l...)
	if code != api.OK {
		panic(code)
	}
	return v
}

// maps takes the arguments and, at the end, the result.
func maps(l ...api.Value) api.Entry {
	last := len(l) - 1
	return api.Entry{Args: l[:last], Result: l[last]}
}

func fails(args ...api.Value) api.Entry { return api.Entry{Args: args, Fails: true} }

var (
	integer = value.Int
	str     = value.String
	atom    = value.Atom
	tuple   = value.Tuple
	list    = value.List
	label   = value.WithLabels
)

// subvalues returns v and all values in it.
func subvalues(v api.Value) []api.Value {
	l := []api.Value{v}
	for _, kid := range v.Kids {
		l = append(l, subvalues(kid)...)
	}
	for _, e := range v.Entries {
		for _, arg := range e.Args {
			l = append(l, subvalues(arg)...)
		}
		if !e.Fails {
			l = append(l, subvalues(e.Result)...)
		}
	}
	return l
}

// someValues returns values of all kinds, with labels and without them, and with parts of all kinds, each valid and once; a part of a value is one of them, too.
func someValues(t *testing.T) []api.Value {
	t.Helper()
	simple := []api.Value{integer(least), integer(0), integer(greatest), str(""), str("a"), atom("a"), atom("b"), value.Pid(0), value.Nil(), tuple(), dict(), fun(0)}
	some := append(simple, label(integer(0), "A"), label(atom("a"), "A", "B"), label(value.Nil(), "B"))
	var l []api.Value
	for i, v := range some {
		w := some[(i+5)%len(some)]
		l = append(l, v, tuple(v), tuple(w, v), tuple(v, w, v, w), list(v), list(v, w, v), value.Cons(v, label(list(w), "A")))
		l = append(l, dict("a", v), dict("a", v, "\"a", w), dict("b", v, "c", w), dict("\"", v, "\"b", w))
		l = append(l, fun(0, maps(v)), fun(0, maps(v), maps(w)), fun(0, fails(), maps(v)), fun(1, maps(v, w)), fun(1, fails(v)), fun(1, fails(v), maps(v, v), maps(w, v)))
		l = append(l, fun(2, maps(v, w, v), fails(w, v)), fun(4, maps(v, v, w, w, v)), fun(4), tuple(list(v), dict("a", tuple(w))), label(fun(1, maps(tuple(v), list(w))), "B"))
	}
	return once(t, l)
}

// once returns the values and the values in them, each once.
func once(t *testing.T, l []api.Value) []api.Value {
	t.Helper()
	var all []api.Value
	found := map[string]bool{}
	for _, v := range l {
		if value.Validate(v) != api.OK {
			t.Fatalf("%v is not valid", v)
		}
		for _, w := range subvalues(v) {
			if s := show(w); !found[s] {
				found[s] = true
				all = append(all, w)
			}
		}
	}
	return all
}
