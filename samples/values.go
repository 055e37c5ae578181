package samples

import (
	"math"
	"slices"

	"semtype/api"
	"semtype/value"
)

// Dict returns the map with these pairs of a name of a key and a value, and the zero Value if there is none.
func Dict(pairs ...any) api.Value {
	var keys []api.Key
	var l []api.Value
	for _, x := range pairs {
		switch x := x.(type) {
		case string:
			keys = append(keys, Key(x))
		case api.Value:
			l = append(l, x)
		}
	}
	v, _ := value.Map(keys, l)
	return v
}

// Fun returns the function with these entries, and the zero Value if there is none.
func Fun(arity int, l ...api.Entry) api.Value {
	v, _ := value.Function(arity, l...)
	return v
}

// Maps returns the entry with these arguments and, at the end, the result.
func Maps(l ...api.Value) api.Entry {
	last := len(l) - 1
	return api.Entry{Args: l[:last], Result: l[last]}
}

// Fails returns the entry of these arguments that fails.
func Fails(args ...api.Value) api.Entry { return api.Entry{Args: args, Fails: true} }

// Subvalues returns v and all values in it.
func Subvalues(v api.Value) []api.Value {
	l := []api.Value{v}
	for _, kid := range v.Kids {
		l = append(l, Subvalues(kid)...)
	}
	for _, e := range v.Entries {
		for _, arg := range e.Args {
			l = append(l, Subvalues(arg)...)
		}
		if !e.Fails {
			l = append(l, Subvalues(e.Result)...)
		}
	}
	return l
}

// Values returns values of all kinds, with the labels A and B and without them, and with parts of all kinds, each valid and once; a part of a value is one of them, too.
func Values() []api.Value {
	some := Simple()
	some = append(some, value.WithLabels(value.Int(0), "A"), value.WithLabels(value.Atom("a"), "A", "B"), value.WithLabels(value.Nil(), "B"))
	var l []api.Value
	for i, v := range some {
		l = append(l, Containing(v, some[(i+5)%len(some)])...)
	}
	for _, v := range append(Simple(), Containing(value.Int(0), value.Atom("b"))...) {
		l = append(l, value.WithLabels(v, "A"), value.WithLabels(v, "B"), value.WithLabels(v, "A", "B"))
	}
	return once(l)
}

// Simple returns values of all kinds without parts.
func Simple() []api.Value {
	return []api.Value{value.Int(math.MinInt64), value.Int(0), value.Int(math.MaxInt64), value.String(""), value.String("a"), value.Atom("a"), value.Atom("b"), value.Pid(0), value.Nil(), value.Tuple(), Dict(), Fun(0)}
}

// Containing returns v, and values of all kinds that have v and w as parts.
func Containing(v, w api.Value) []api.Value {
	return []api.Value{
		v, value.Tuple(v), value.Tuple(w, v), value.Tuple(v, w, w), value.Tuple(v, w, v, w), value.Tuple(value.List(v), Dict("a", value.Tuple(w))),
		value.List(v), value.List(v, w, v), value.Cons(v, value.WithLabels(value.List(w), "A")),
		Dict("a", v), Dict("a", v, "\"a", w), Dict("b", v, "c", w), Dict("\"", v, "\"b", w),
		Fun(0, Maps(v)), Fun(0, Maps(v), Maps(w)), Fun(0, Fails(), Maps(v)), Fun(1, Maps(v, w)), Fun(1, Fails(v)), Fun(1, Fails(v), Maps(v, v), Maps(w, v)),
		Fun(2, Maps(v, w, v), Fails(w, v)), Fun(3, Maps(v, v, w, v)), Fun(4, Maps(v, v, w, w, v)), Fun(4), value.WithLabels(Fun(1, Maps(value.Tuple(v), value.List(w))), "B"),
	}
}

// once returns the values and the values in them, each once.
func once(l []api.Value) []api.Value {
	var all []api.Value
	for _, v := range l {
		all = append(all, Subvalues(v)...)
	}
	slices.SortFunc(all, value.Compare)
	return slices.CompactFunc(all, value.Equal)
}
