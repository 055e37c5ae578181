package interval_test

import (
	"math/big"
	"math/rand"
	"slices"
	"testing"

	"semtype/api"
	"semtype/interval"
)

// bounds are the ends of the ranges of the lists below.
var bounds = []int64{least, least + 1, least + 2, least + 3, -3, -2, -1, 0, 1, 2, 3, greatest - 3, greatest - 2, greatest - 1, greatest}

// samples has the bounds and their neighbours, and so at least one integer of each part into which the bounds cut the integers.
func samples() []int64 {
	var l []int64
	for _, n := range bounds {
		l = append(l, n)
		if n > least {
			l = append(l, n-1)
		}
		if n < greatest {
			l = append(l, n+1)
		}
	}
	slices.Sort(l)
	return slices.Compact(l)
}

// model says for each sample whether the list denotes it.
func model(list []api.Range, points []int64) []bool {
	l := make([]bool, len(points))
	for i, n := range points {
		for _, r := range list {
			l[i] = l[i] || r.Lo <= n && n <= r.Hi
		}
	}
	return l
}

// isNormal follows the chapter's words with integers that do not overflow.
func isNormal(s []api.Range) bool {
	for i, r := range s {
		if r.Lo > r.Hi {
			return false
		}
		if i == 0 {
			continue
		}
		next := new(big.Int).Add(big.NewInt(s[i-1].Hi), big.NewInt(1))
		if big.NewInt(r.Lo).Cmp(next) <= 0 {
			return false
		}
	}
	return true
}

// shortLists returns all lists of at most two ranges with these bounds.
func shortLists() [][]api.Range {
	var ranges []api.Range
	for _, lo := range bounds {
		for _, hi := range bounds {
			ranges = append(ranges, api.Range{Lo: lo, Hi: hi})
		}
	}
	l := [][]api.Range{nil}
	for _, a := range ranges {
		l = append(l, []api.Range{a})
		for _, b := range ranges {
			l = append(l, []api.Range{a, b})
		}
	}
	return l
}

func randomList(r *rand.Rand) []api.Range {
	l := make([]api.Range, r.Intn(6))
	for i := range l {
		a, b := r.Intn(len(bounds)), r.Intn(len(bounds))
		if a > b && r.Intn(4) > 0 {
			a, b = b, a
		}
		l[i] = api.Range{Lo: bounds[a], Hi: bounds[b]}
	}
	return l
}

func checkSet(t *testing.T, name string, got []api.Range, want []bool, points []int64) {
	t.Helper()
	if !isNormal(got) || !slices.Equal(model(got, points), want) {
		t.Fatalf("%s gives %v", name, got)
	}
}

// P2.1 to P2.3: each list of at most two ranges against the model.
func TestOneListByModel(t *testing.T) {
	points := samples()
	for _, list := range shortLists() {
		checkOneList(t, list, points)
	}
}

func checkOneList(t *testing.T, list []api.Range, points []int64) {
	has := model(list, points)
	if got := interval.Valid(list); got != isNormal(list) {
		t.Fatalf("Valid(%v) = %v", list, got)
	}
	checkSet(t, "Normalize", interval.Normalize(list), has, points)
	missing := make([]bool, len(has))
	for i, n := range points {
		missing[i] = !has[i]
		if interval.Contains(list, n) != has[i] {
			t.Fatalf("Contains(%v, %d) = %v", list, n, !has[i])
		}
	}
	checkSet(t, "Complement", interval.Complement(list), missing, points)
	n, ok := interval.Least(list)
	if wantN, wantOK := leastOf(has, points); n != wantN || ok != wantOK {
		t.Fatalf("Least(%v) = %d, %v", list, n, ok)
	}
}

// leastOf needs the samples only: where the least absolute value is reached, a range has an end or contains 0.
func leastOf(has []bool, points []int64) (n int64, ok bool) {
	for i, p := range points {
		if !has[i] {
			continue
		}
		c := big.NewInt(p).CmpAbs(big.NewInt(n))
		if !ok || c < 0 || c == 0 && p > n {
			n, ok = p, true
		}
	}
	return n, ok
}

// P2.2: pairs of lists against the model.
func TestTwoListsByModel(t *testing.T) {
	points := samples()
	r := rand.New(rand.NewSource(2))
	for range 20000 {
		checkTwoLists(t, randomList(r), randomList(r), points)
	}
}

func checkTwoLists(t *testing.T, a, b []api.Range, points []int64) {
	inA, inB := model(a, points), model(b, points)
	either, both, subset := make([]bool, len(points)), make([]bool, len(points)), true
	for i := range points {
		either[i], both[i] = inA[i] || inB[i], inA[i] && inB[i]
		subset = subset && (!inA[i] || inB[i])
	}
	checkSet(t, "Union", interval.Union(a, b), either, points)
	checkSet(t, "Intersect", interval.Intersect(a, b), both, points)
	if got := interval.IsSubset(a, b); got != subset {
		t.Fatalf("IsSubset(%v, %v) = %v", a, b, got)
	}
	common := interval.Intersect(a, b)
	if !interval.IsSubset(common, a) || !interval.IsSubset(b, interval.Union(a, b)) {
		t.Fatalf("%v and %v: common part and sum", a, b)
	}
}

// P2.1: each set has one normal form: lists with the same members have the same.
func TestNormalFormIsUnique(t *testing.T) {
	r := rand.New(rand.NewSource(3))
	for range 5000 {
		list := randomList(r)
		want := interval.Normalize(list)
		r.Shuffle(len(list), func(i, k int) { list[i], list[k] = list[k], list[i] })
		again := append(list, want...)
		for _, l := range [][]api.Range{list, want, again} {
			if got := interval.Normalize(l); !slices.Equal(got, want) {
				t.Fatalf("Normalize(%v) = %v, not %v", l, got, want)
			}
		}
		if got := interval.Complement(interval.Complement(list)); !slices.Equal(got, want) {
			t.Fatalf("%v: complement of the complement %v", list, got)
		}
	}
}
