package valuetext_test

import (
	"fmt"
	"slices"
	"strings"
	"testing"

	"semtype/api"
	"semtype/value"
	"semtype/valuetext"
)

func isValid(v api.Value) bool { return value.Validate(v) == api.OK }

// notation is the model of Format for valid values: it joins the notations of the parts.
func notation(v api.Value) string {
	s := ""
	switch v.Kind {
	case api.VInt:
		s = fmt.Sprint(v.Int)
	case api.VString:
		s = quoted(v.Text)
	case api.VAtom:
		s = v.Text
	case api.VPid:
		s = fmt.Sprint("#", v.Int)
	case api.VNil:
		s = "[]"
	case api.VTuple:
		s = "{" + strings.Join(notations(v.Kids), ", ") + "}"
	case api.VMap:
		parts := notations(v.Kids)
		for i, k := range v.Keys {
			name := k.Text
			if k.Kind == api.KeyString {
				name = quoted(name)
			}
			parts[i] = name + ": " + parts[i]
		}
		s = "%{" + strings.Join(parts, ", ") + "}"
	case api.VFun:
		s = fmt.Sprintf("fun/%d{%s}", v.Int, strings.Join(entryNotations(v.Entries), ", "))
	case api.VCons:
		s = "[" + notation(v.Kids[0]) + behindHead(v.Kids[1])
	}
	if len(v.Labels) > 0 {
		s += "@(" + strings.Join(v.Labels, " ") + ")"
	}
	return s
}

// behindHead returns what follows the head of a cons value with this tail.
func behindHead(tail api.Value) string {
	switch {
	case len(tail.Labels) > 0:
		return " | " + notation(tail) + "]"
	case tail.Kind == api.VCons:
		return ", " + notation(tail.Kids[0]) + behindHead(tail.Kids[1])
	}
	return "]"
}

func notations(l []api.Value) []string {
	var parts []string
	for _, v := range l {
		parts = append(parts, notation(v))
	}
	return parts
}

func entryNotations(entries []api.Entry) []string {
	var parts []string
	for _, e := range entries {
		result := "!"
		if !e.Fails {
			result = notation(e.Result)
		}
		parts = append(parts, "("+strings.Join(notations(e.Args), ", ")+") -> "+result)
	}
	return parts
}

func quoted(s string) string {
	parts := ""
	for _, c := range []byte(s) {
		switch {
		case c == '"' || c == '\\':
			parts += `\` + string(rune(c))
		case c >= 0x20 && c <= 0x7e:
			parts += string(rune(c))
		default:
			parts += fmt.Sprintf(`\x%02x`, c)
		}
	}
	return `"` + parts + `"`
}

// P5.3: each change of one byte of a notation, and each exchange of two neighbours.
func TestParseChangedNotations(t *testing.T) {
	const letters = " ,|[]{}()@%#!:->/\"\\0159afnuxzAB_\x00\xff"
	accepted := 0
	for _, n := range valid()[:200] {
		for i := 0; i < len(n.s) && i < 70; i++ {
			changed := []string{n.s[:i] + n.s[i+1:], n.s[:i] + n.s[i:i+1] + n.s[i:]}
			if i > 0 {
				changed = append(changed, n.s[:i-1]+n.s[i:i+1]+n.s[i-1:i]+n.s[i+1:])
			}
			for k := range len(letters) {
				changed = append(changed, n.s[:i]+letters[k:k+1]+n.s[i:], n.s[:i]+letters[k:k+1]+n.s[i+1:])
			}
			for _, s := range changed {
				if checkExact(t, s) {
					accepted++
				}
			}
		}
	}
	if accepted < 1000 {
		t.Errorf("%d notations accepted", accepted)
	}
}

// P5.3: different values have different notations.
func TestNotationsDiffer(t *testing.T) {
	found := map[string]string{}
	for _, n := range valid() {
		for _, m := range append(insideOthers(n), n) {
			s := valuetext.Format(m.v)
			if before, ok := found[s]; ok && before != show(m.v) || s == "" || s != notation(m.v) {
				t.Fatalf("%s: %s and %s", s, before, show(m.v))
			}
			found[s] = show(m.v)
		}
	}
}

// vocabulary is a set of words, none of which begins another one, and a way to build values whose notations are at most limit of them.
type vocabulary struct {
	limit int
	words []string
	first []api.Value
	build func(a, b api.Value) []api.Value
}

func vocabularies() []vocabulary {
	one := pid(1)
	return []vocabulary{
		{8, []string{"#1", "[", "]", ", ", " | ", "@(A)"}, []api.Value{one, empty()}, func(a, b api.Value) []api.Value {
			return []api.Value{pair(a, empty()), pair(a, b), labelled(a, "A")}
		}},
		{7, []string{"#1", "{", "}", ", ", "@(A)", "@(A B)"}, []api.Value{one, tuple()}, func(a, b api.Value) []api.Value {
			return []api.Value{tuple(a), tuple(a, b), tuple(a, b, one), tuple(a, one, b), tuple(one, a, b), labelled(a, "A"), labelled(a, "A", "B")}
		}},
		{7, []string{"#1", "%{", "}", ", ", "a: ", "b: ", `"a": `}, []api.Value{one, record(nil)}, func(a, b api.Value) []api.Value {
			return []api.Value{withKey(a, atomKey("a"), b), withKey(a, atomKey("b"), b), withKey(a, stringKey("a"), b)}
		}},
		{7, []string{"#1", "fun/1{", "}", ", ", "(1) -> ", "(2) -> ", "!"}, []api.Value{one, fun(1)}, func(a, b api.Value) []api.Value {
			return []api.Value{withEntry(a, fails(integer(1))), withEntry(a, fails(integer(2))), withEntry(a, maps(b, integer(1))), withEntry(a, maps(b, integer(2)))}
		}},
		{7, []string{"#1", "fun/0{", "}", ", ", "() -> ", "(#1) -> ", "!"}, []api.Value{one, fun(0)}, func(a, b api.Value) []api.Value {
			return []api.Value{withEntry(a, fails()), withEntry(a, maps(b))}
		}},
	}
}

// withKey returns the map m with one key more, and no valid value if this cannot be.
func withKey(m api.Value, k api.Key, v api.Value) api.Value {
	m, _ = value.Map(append(slices.Clone(m.Keys), k), append(slices.Clone(m.Kids), v))
	return m
}

// withEntry returns the function f with one entry more, and no valid value if this cannot be.
func withEntry(f api.Value, e api.Entry) api.Value {
	f, _ = value.Function(int(f.Int), append(slices.Clone(f.Entries), e)...)
	return f
}

// size returns the number of words that s consists of, or -1.
func (voc vocabulary) size(s string) int {
	n := 0
	for ; s != ""; n++ {
		i := slices.IndexFunc(voc.words, func(word string) bool { return strings.HasPrefix(s, word) })
		if i < 0 {
			return -1
		}
		s = s[len(voc.words[i]):]
	}
	return n
}

// known returns the notations of all values that can be built.
func (voc vocabulary) known() map[string]bool {
	found, l, sizes := map[string]bool{}, []api.Value{}, []int{}
	add := func(v api.Value) {
		if !isValid(v) || found[notation(v)] {
			return
		}
		if n := voc.size(notation(v)); 0 < n && n <= voc.limit {
			found[notation(v)] = true
			l, sizes = append(l, v), append(sizes, n)
		}
	}
	for _, v := range voc.first {
		add(v)
	}
	for i := 0; i < len(l); i++ {
		for k := 0; k <= i; k++ {
			if sizes[i]+sizes[k] > voc.limit {
				continue
			}
			for _, v := range append(voc.build(l[i], l[k]), voc.build(l[k], l[i])...) {
				add(v)
			}
		}
	}
	return found
}

// P5.3: of all sequences of a few words exactly the notations of valid values are accepted.
func TestParseAllSequences(t *testing.T) {
	for _, voc := range vocabularies() {
		known := voc.known()
		var visit func(s string, left int)
		visit = func(s string, left int) {
			if checkExact(t, s) != known[s] {
				t.Fatalf("Parse(%s) accepts: %v", s, !known[s])
			}
			delete(known, s)
			for _, word := range voc.words {
				if left > 0 {
					visit(s+word, left-1)
				}
			}
		}
		if len(known) < 8 {
			t.Errorf("%q: %d values", voc.words, len(known))
		}
		visit("", voc.limit)
		if len(known) > 0 {
			t.Errorf("%q: not visited: %v", voc.words, known)
		}
	}
}
