package interval_test

import (
	"math"
	"slices"
	"testing"

	"semtype/api"
	"semtype/interval"
)

const (
	least    = math.MinInt64
	greatest = math.MaxInt64
)

// set builds a list of ranges from pairs of bounds.
func set(bounds ...int64) []api.Range {
	var l []api.Range
	for i := 0; i+1 < len(bounds); i += 2 {
		l = append(l, api.Range{Lo: bounds[i], Hi: bounds[i+1]})
	}
	return l
}

// P2.1: which lists are normal forms.
func TestValid(t *testing.T) {
	valid := [][]api.Range{
		nil, {}, set(0, 0), set(-5, 7), set(1, 2, 4, 5), set(1, 1, 3, 3, 5, 5),
		set(least, least), set(greatest, greatest), set(least, greatest), set(least, -1, 1, greatest),
		set(least, least, least+2, least+2), set(greatest-2, greatest-2, greatest, greatest),
		set(least, least, greatest, greatest),
	}
	for _, s := range valid {
		if !interval.Valid(s) {
			t.Errorf("%v is a normal form", s)
		}
	}
	invalid := [][]api.Range{
		set(1, 0), set(greatest, least), set(0, -1, 5, 5), set(5, 5, 9, 8), set(1, 2, 9, 8, 20, 20),
		set(1, 2, 3, 4), set(1, 2, 2, 4), set(1, 9, 3, 4), set(5, 9, 1, 2), set(5, 9, 1, 4), set(1, 2, 1, 2), set(1, 1, 4, 4, 5, 5),
		set(least, least, least, least), set(least, least, least+1, least+1), set(3, 3, least, least),
		set(greatest-1, greatest-1, greatest, greatest), set(greatest, greatest, greatest, greatest),
		set(greatest, greatest, least, least), set(least, greatest, 0, 0), set(0, greatest, least, -2), set(least, greatest, least, greatest),
	}
	for _, s := range invalid {
		if interval.Valid(s) {
			t.Errorf("%v is no normal form", s)
		}
	}
}

// P2.1: normal forms, with the chapter's example.
func TestNormalize(t *testing.T) {
	cases := []struct{ list, want []api.Range }{
		{nil, nil},
		{set(), nil},
		{set(5, 9, 1, 4), set(1, 9)},
		{set(5, 9, 1, 3), set(1, 3, 5, 9)},
		{set(1, 0), nil},
		{set(greatest, least), nil},
		{set(9, 1, 4, 4, 3, 2), set(4, 4)},
		{set(0, 20, 3, 4, 6, 5, 8, 9, 22, 23), set(0, 20, 22, 23)},
		{set(0, 20, 3, 4, 15, 30), set(0, 30)},
		{set(2, 2, 2, 2), set(2, 2)},
		{set(3, 3, 2, 2, 1, 1), set(1, 3)},
		{set(0, 1, 0, 9, 0, 5), set(0, 9)},
		{set(least, least, least, least), set(least, least)},
		{set(least+1, least+1, least, least), set(least, least+1)},
		{set(least+2, least+2, least, least), set(least, least, least+2, least+2)},
		{set(greatest, greatest, greatest, greatest), set(greatest, greatest)},
		{set(greatest, greatest, greatest-1, greatest-1), set(greatest-1, greatest)},
		{set(greatest, greatest, least, least), set(least, least, greatest, greatest)},
		{set(greatest, greatest, least, greatest-1), set(least, greatest)},
		{set(0, greatest, least, -1), interval.Full()},
		{set(least, greatest, 3, 4, greatest, greatest), interval.Full()},
	}
	for _, c := range cases {
		if got := interval.Normalize(c.list); !slices.Equal(got, c.want) {
			t.Errorf("Normalize(%v) = %v", c.list, got)
		}
	}
}

// P2.1
func TestFull(t *testing.T) {
	if got := interval.Full(); !slices.Equal(got, set(least, greatest)) || !interval.Valid(got) {
		t.Error(got)
	}
}

// P2.2: sums and common parts.
func TestUnionIntersect(t *testing.T) {
	cases := []struct{ a, b, union, common []api.Range }{
		{nil, nil, nil, nil},
		{set(1, 3), nil, set(1, 3), nil},
		{set(1, 3), set(9, 8), set(1, 3), nil},
		{set(1, 3), set(4, 6), set(1, 6), nil},
		{set(1, 3), set(3, 6), set(1, 6), set(3, 3)},
		{set(1, 3), set(5, 6), set(1, 3, 5, 6), nil},
		{set(1, 9), set(2, 3, 5, 6, 9, 20), set(1, 20), set(2, 3, 5, 6, 9, 9)},
		{set(5, 9, 1, 4), set(8, 8, 0, 1, 3, 2), set(0, 9), set(1, 1, 8, 8)},
		{set(0, 4, 6, 9), set(0, 3, 5, 9), set(0, 9), set(0, 3, 6, 9)},
		{interval.Full(), set(7, 7, 6, 6), interval.Full(), set(6, 7)},
		{interval.Full(), interval.Full(), interval.Full(), interval.Full()},
		{set(least, 0), set(0, greatest), interval.Full(), set(0, 0)},
		{set(least, -1), set(0, greatest), interval.Full(), nil},
		{set(least, least, greatest, greatest), set(greatest, greatest), set(least, least, greatest, greatest), set(greatest, greatest)},
		{set(least, greatest), set(least, least, greatest, greatest), interval.Full(), set(least, least, greatest, greatest)},
	}
	for _, c := range cases {
		for _, p := range [][2][]api.Range{{c.a, c.b}, {c.b, c.a}} {
			if got := interval.Union(p[0], p[1]); !slices.Equal(got, c.union) {
				t.Errorf("Union(%v, %v) = %v", p[0], p[1], got)
			}
			if got := interval.Intersect(p[0], p[1]); !slices.Equal(got, c.common) {
				t.Errorf("Intersect(%v, %v) = %v", p[0], p[1], got)
			}
		}
	}
}

// P2.2: complements, with the chapter's example.
func TestComplement(t *testing.T) {
	cases := []struct{ list, want []api.Range }{
		{nil, interval.Full()},
		{set(), interval.Full()},
		{set(2, 1), interval.Full()},
		{interval.Full(), nil},
		{set(0, greatest, least, -1), nil},
		{set(0, 0), set(-9223372036854775808, -1, 1, 9223372036854775807)},
		{set(5, 9, 1, 4), set(least, 0, 10, greatest)},
		{set(5, 9, 1, 3), set(least, 0, 4, 4, 10, greatest)},
		{set(least, least), set(least+1, greatest)},
		{set(greatest, greatest), set(least, greatest-1)},
		{set(greatest, greatest, least, least), set(least+1, greatest-1)},
		{set(least+1, greatest-1), set(least, least, greatest, greatest)},
		{set(least, -1, 1, greatest), set(0, 0)},
	}
	for _, c := range cases {
		if got := interval.Complement(c.list); !slices.Equal(got, c.want) {
			t.Errorf("Complement(%v) = %v", c.list, got)
		}
	}
}

// P2.2: members, also of lists that are not normal forms.
func TestContains(t *testing.T) {
	cases := []struct {
		list []api.Range
		n    int64
		want bool
	}{
		{nil, 0, false},
		{set(1, 3), 0, false}, {set(1, 3), 1, true}, {set(1, 3), 2, true}, {set(1, 3), 3, true}, {set(1, 3), 4, false},
		{set(3, 1), 2, false}, {set(3, 1), 1, false}, {set(3, 1), 3, false},
		{set(7, 9, 1, 3), 2, true}, {set(7, 9, 1, 3), 8, true}, {set(7, 9, 1, 3), 5, false},
		{set(0, 9, 1, 2), 5, true}, {set(9, 0, 5, 5), 5, true}, {set(0, 20, 3, 4), 10, true},
		{set(least, least), least, true}, {set(least, least), greatest, false}, {set(least+1, greatest), least, false},
		{set(greatest, greatest), greatest, true}, {set(least, greatest-1), greatest, false},
		{set(least, greatest), least, true}, {set(least, greatest), 0, true}, {set(least, greatest), greatest, true},
		{set(greatest, least), 0, false}, {set(greatest, least), least, false}, {set(greatest, least), greatest, false},
	}
	for _, c := range cases {
		if got := interval.Contains(c.list, c.n); got != c.want {
			t.Errorf("Contains(%v, %d) = %v", c.list, c.n, got)
		}
	}
}

// P2.2: subsets, also where several ranges of b are needed to cover one of a.
func TestIsSubset(t *testing.T) {
	cases := []struct {
		a, b []api.Range
		want bool
	}{
		{nil, nil, true}, {nil, set(1, 1), true}, {set(1, 1), nil, false},
		{set(1, 0), nil, true}, {set(greatest, least), set(2, 1), true}, {set(1, 1), set(2, 1), false},
		{set(2, 3), set(1, 4), true}, {set(1, 4), set(1, 4), true}, {set(0, 4), set(1, 4), false}, {set(1, 5), set(1, 4), false},
		{set(1, 9), set(5, 9, 1, 4), true}, {set(1, 9), set(6, 9, 1, 4), false}, {set(5, 9, 1, 4), set(1, 9), true},
		{set(1, 1, 8, 8), set(0, 2, 7, 9), true}, {set(1, 1, 5, 5, 8, 8), set(0, 2, 7, 9), false},
		{set(least, least), set(least, 0), true}, {set(least, least), set(least+1, greatest), false},
		{set(greatest, greatest), set(0, greatest), true}, {set(greatest, greatest), set(least, greatest-1), false},
		{interval.Full(), interval.Full(), true}, {interval.Full(), set(0, greatest, least, -1), true},
		{interval.Full(), set(1, greatest, least, -1), false}, {set(least, greatest), nil, false}, {nil, interval.Full(), true},
	}
	for _, c := range cases {
		if got := interval.IsSubset(c.a, c.b); got != c.want {
			t.Errorf("IsSubset(%v, %v) = %v", c.a, c.b, got)
		}
	}
}

// P2.3, with the chapter's example.
func TestLeast(t *testing.T) {
	cases := []struct {
		list []api.Range
		want int64
	}{
		{set(-3, -2, 2, 7), 2}, {set(2, 7, -3, -2), 2}, {set(-3, -1, 2, 7), -1}, {set(-3, -2, 3, 7), -2},
		{set(0, 0), 0}, {set(-5, 5), 0}, {set(-5, 0), 0}, {set(0, 5), 0}, {set(1, 5), 1}, {set(-5, -1), -1},
		{set(9, 9, 4, 6, 1, 0, 5, 5), 4}, {set(-9, -9, -6, -4, 0, -1, -5, -5), -4}, {set(1, -1, 8, 9), 8},
		{set(7, 7, 0, 0), 0}, {set(0, 0, 7, 7), 0}, {set(-7, -7, 0, 0), 0}, {set(0, 0, -7, -7), 0},
		{set(least, least), least}, {set(greatest, greatest), greatest},
		{set(least, least, greatest, greatest), greatest}, {set(greatest, greatest, least, least), greatest},
		{set(least, least+1, greatest, greatest), greatest}, {set(greatest, greatest, least, least+1), greatest},
		{set(least, least+2, greatest, greatest), least + 2}, {set(greatest, greatest, least+2, least+2), least + 2},
		{set(least, least, least+1, least+1), least + 1}, {interval.Full(), 0},
	}
	for _, c := range cases {
		if got, ok := interval.Least(c.list); !ok || got != c.want {
			t.Errorf("Least(%v) = %d, %v", c.list, got, ok)
		}
	}
	for _, s := range [][]api.Range{nil, {}, set(1, 0), set(greatest, least), set(7, 6, -1, -2)} {
		if got, ok := interval.Least(s); ok || got != 0 {
			t.Errorf("Least(%v) = %d, %v", s, got, ok)
		}
	}
}

// R2: arguments are not changed, and writing into a result changes neither an argument nor a later result.
func TestMemory(t *testing.T) {
	lists := [][]api.Range{set(1, 2, 4, 5), set(5, 9, 1, 4, 3, 2), set(least, greatest), set(7, 7)}
	for _, a := range lists {
		for _, b := range lists {
			checkMemory(t, a, b)
		}
	}
}

func checkMemory(t *testing.T, a, b []api.Range) {
	// Room behind the elements shows an append into the argument.
	roomy := append(make([]api.Range, 0, len(a)+9), a...)
	room := roomy[:cap(roomy)]
	calls := []func() []api.Range{
		interval.Full,
		func() []api.Range { return interval.Normalize(roomy) },
		func() []api.Range { return interval.Union(roomy, b) },
		func() []api.Range { return interval.Union(roomy, nil) },
		func() []api.Range { return interval.Union(nil, roomy) },
		func() []api.Range { return interval.Intersect(roomy, b) },
		func() []api.Range { return interval.Intersect(roomy, interval.Full()) },
		func() []api.Range { return interval.Complement(roomy) },
		func() []api.Range { interval.Valid(roomy); interval.Contains(roomy, 3); return nil },
		func() []api.Range { interval.IsSubset(roomy, b); interval.Least(roomy); return nil },
	}
	before, b2 := slices.Clone(room), slices.Clone(b)
	for i, call := range calls {
		first := call()
		kept := slices.Clone(first)
		for k := range first {
			first[k] = api.Range{Lo: -77, Hi: -77}
		}
		if !slices.Equal(room, before) || !slices.Equal(b, b2) {
			t.Errorf("call %d changes %v or %v", i, a, b2)
		}
		if second := call(); !slices.Equal(second, kept) {
			t.Errorf("call %d: %v, then %v", i, kept, second)
		}
	}
}
