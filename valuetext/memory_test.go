package valuetext_test

import (
	"testing"

	"semtype/api"
	"semtype/valuetext"
)

// places returns the addresses of all elements of the slices of v, with those of the room behind them.
func places(v api.Value) []any {
	l := placesOf(v.Kids, places)
	l = append(l, placesOf(v.Keys, nil)...)
	l = append(l, placesOf(v.Labels, nil)...)
	return append(l, placesOf(v.Entries, func(e api.Entry) []any { return append(placesOf(e.Args, places), places(e.Result)...) })...)
}

func placesOf[T any](l []T, inner func(T) []any) []any {
	var all []any
	room := l[:cap(l)]
	for i := range room {
		all = append(all, &room[i])
		if inner != nil {
			all = append(all, inner(room[i])...)
		}
	}
	return all
}

// R2, R5: results share no memory with each other or within themselves, and what is written into them changes nothing else.
func TestParsedMemory(t *testing.T) {
	for _, n := range valid() {
		first, _ := valuetext.Parse(n.s)
		second, _ := valuetext.Parse(n.s)
		taken := map[any]bool{}
		for _, place := range append(places(first), places(second)...) {
			if taken[place] {
				t.Fatalf("Parse(%s): shared memory", n.s)
			}
			taken[place] = true
		}
		overwrite(first)
		if third, _ := valuetext.Parse(n.s); show(second) != show(n.v) || show(third) != show(n.v) {
			t.Fatalf("Parse(%s) = %s, then %s", n.s, show(second), show(third))
		}
	}
}

// overwrite changes all elements of the slices of v.
func overwrite(v api.Value) {
	for i, kid := range v.Kids {
		overwrite(kid)
		v.Kids[i] = api.Value{Kind: 77}
	}
	for i, e := range v.Entries {
		overwrite(api.Value{Kids: e.Args})
		overwrite(e.Result)
		v.Entries[i] = api.Entry{Fails: !e.Fails}
	}
	for i := range v.Keys {
		v.Keys[i] = api.Key{Kind: 77, Text: "written"}
	}
	for i := range v.Labels {
		v.Labels[i] = "written"
	}
}

// R2: Format changes no value.
func TestFormatKeepsItsArgument(t *testing.T) {
	for _, n := range valid() {
		before := show(n.v)
		valuetext.Format(n.v)
		if show(n.v) != before {
			t.Errorf("Format changes %s to %s", before, show(n.v))
		}
	}
	for _, v := range invalidValues() {
		before := show(v)
		valuetext.Format(v)
		if show(v) != before {
			t.Errorf("Format changes %s to %s", before, show(v))
		}
	}
}
