package valuetext_test

import (
	"runtime/debug"
	"strings"
	"testing"

	"semtype/api"
	"semtype/valuetext"
)

// P5.3: Parse returns the value that was formatted.
func TestParse(t *testing.T) {
	for _, n := range valid() {
		if v, code := valuetext.Parse(n.s); code != api.OK || show(v) != show(n.v) {
			t.Errorf("Parse(%s) = %s, %v", n.s, show(v), code)
		}
	}
}

// refused returns what is no notation, by the kinds of mistakes.
func refused() []string {
	long, longName := strings.Repeat("x", api.MaxText+1), "Abcdefghij_012345"
	return []string{
		"", " ", ",", "@", "@(A)", "!", "|", ":", "->", "-", "#", "%", "(", ")", "()", "(1)", "\x00", "\xff", "A", "_", "_a", "Ab", "é", "nil@", "1 2", "1,", "1, 2", "() -> 1", "a: 1",
		"00", "01", "-01", "007", "+1", "+0", "-0", "--1", "-", "1-", "1-2", "-1-", "1_000", "0x1", "1e3", "1.0", "1a", "9223372036854775808", "-9223372036854775809", "18446744073709551616", "99999999999999999999999999",
		"#01", "#-1", "#-0", "#+1", "# 1", "#a", "#1a", "#9223372036854775808", "##1",
		`"`, `"a`, `a"`, `"a"b"`, `"a""b"`, `"\"`, `"\`, `"\\\"`, `'a'`, `"` + "\n" + `"`, `"` + "\x7f" + `"`, `"` + "é" + `"`, `"\n"`, `"\x41"`, `"\x20"`, `"\x22"`, `"\x5c"`, `"\xFF"`, `"\x0A"`, `"\x0"`, `"\x"`, `"\xg0"`, `"\a"`, `"\u0000"`, `"\'"`, `"` + long + `"`, `"` + strings.Repeat(`\x00`, api.MaxText+1) + `"`,
		"aB", "a-b", "a.b", "a b", "a!", "abcdefghij_012345", `a"b"`,
		"{", "}", "{1", "1}", "{1,", "{1, ", "{1, }", "{,}", "{, 1}", "{1,2}", "{1,  2}", "{1 , 2}", "{1 }", "{ 1}", "{ }", "{}{}", "{1 2}", "{1; 2}", "{1]", "{1)", "{1 | 2}", "{1, 1, 1, 1, 1}", "{{1, 1, 1, 1, 1}}", "{}}", "{{}",
		"[", "]", "[1", "[1,", "[1, ", "[1, ]", "[,]", "[1,2]", "[1,  2]", "[1 , 2]", "[1 ]", "[ 1]", "[ ]", "[1}", "[]]", "[[]", "[1 2]",
		"[|]", "[ | ]", "[1 | ]", "[1 |", "[1 | ", "[ | []@(A)]", "[| []@(A)]", "[1 | []]", "[1 | [2]]", "[1, 2 | [3]]", "[1 | [2 | [3]]@(A)]", "[1 | [2 | [3]@(A)]]", "[1|[]@(A)]", "[1 |[]@(A)]", "[1| []@(A)]", "[1  | []@(A)]", "[1 |  []@(A)]", "[1 | []@(A) ]", "[1 | []@(A)", "[1 | []@(A), 2]", "[1 | []@(A) | []@(A)]", "[1, | []@(A)]",
		"[1 | 2]", "[1 | 2@(A)]", "[1 | {}@(A)]", "[1 | a@(A)]", "[1 | %{}@(A)]", "[1 | fun/0{}@(A)]", "[1 | #1@(A)]", `[1 | ""@(A)]`, "[1 | []@()]",
		"%", "%{", "% {}", "%{ }", "%{a}", "%{a:}", "%{a: }", "%{a:1}", "%{a : 1}", "%{a:  1}", "%{a: 1 }", "%{ a: 1}", "%{a: 1", "%{a: 1,", "%{a: 1, ", "%{a: 1, }", "%{a: 1,b: 2}", "%{a: 1 b: 2}", "%{a: 1]", "%{1: a}", "%{A: 1}", "%{: 1}", "%{[]: 1}", "%{a@(A): 1}", `%{"a: 1}`, `%{"a" : 1}`, `%{"\x41": 1}`, "%{abcdefghij_012345: 1}", `%{"` + long + `": 1}`, "%{a: 1}}", "%{a => 1}", "%[]", "%{a[]}", "%{a{}}", "%{a#1}", `%{"a"1}`, `%{"a""b"}`,
		"%{b: 1, a: 2}", "%{a: 1, a: 1}", "%{a: 1, a: 2}", `%{"a": 1, a: 1}`, `%{"b": 1, "a": 1}`, `%{"a": 1, "a": 1}`, "%{ab: 1, a: 1}", "%{a: 1, b: 1, b: 1}", "%{a: %{b: 1, a: 1}}",
		"fun/", "fun/0", "fun/0{", "fun/{}", "fun{}", "fun/0 {}", "fun /0{}", "fun/ 0{}", "fun/0{ }", "fun/00{}", "fun/01{}", "fun/-0{}", "fun/+1{}", "fun/-1{}", "fun/5{}", "fun/5{(1, 1, 1, 1, 1) -> 1}", "fun/9223372036854775807{}", "fun/9223372036854775808{}", "fun/a{}", "Fun/0{}", "fun/0{}{}", "fun/0[]", "fan/0{}", "f/0{}",
		"fun/0{()}", "fun/0{() ->}", "fun/0{() -> }", "fun/0{()-> 1}", "fun/0{() ->1}", "fun/0{()->1}", "fun/0{()  -> 1}", "fun/0{() ->  1}", "fun/0{( ) -> 1}", "fun/0{() -> 1 }", "fun/0{ () -> 1}", "fun/0{() -> 1", "fun/0{() -> 1,", "fun/0{() -> 1, }", "fun/0{() -> 1,() -> 2}", "fun/0{() -> !!}", "fun/0{() -> !@(A)}", "fun/0{() -> ! }", "fun/0{() => 1}", "fun/0{ -> 1}", "fun/0{1}", "fun/0{!}", "fun/0{()1}", "fun/0{()[]}", "fun/0{()!}", "fun/0{) -> 1}", "fun/0()", "fun/0() -> 1}", "fun{() -> 1}", "fun/0{(!) -> 1}", "fun/0{() -> 1} ",
		"fun/1{1 -> 1}", "fun/1{(1 -> 1}", "fun/1{1) -> 1}", "fun/1{(1,) -> 1}", "fun/1{(1, ) -> 1}", "fun/1{(!) -> 1}", "fun/2{(1,1) -> 1}", "fun/2{(1 1) -> 1}", "fun/2{(1, 1} -> 1}",
		"fun/1{() -> 1}", "fun/0{(1) -> 1}", "fun/1{(1, 2) -> 1}", "fun/2{(1) -> 1}", "fun/1{(1) -> 1, () -> 1}", "fun/1{() -> 1, (1) -> 1}", "fun/4{(1, 1, 1) -> !}",
		"fun/1{(2) -> 1, (1) -> 1}", "fun/1{(1) -> 2, (1) -> 1}", "fun/1{(1) -> 1, (1) -> !}", "fun/1{(1) -> 1, (1) -> 1}", "fun/0{() -> !, () -> !}", "fun/1{(1@(A)) -> 1, (1) -> 1}", "fun/2{(1, 2) -> 1, (1, 1) -> 1}", "fun/0{() -> fun/0{() -> 2, () -> 1}}", "fun/1{(%{b: 1, a: 1}) -> !}",
		"1@", "1@(", "1@()", "1@(A", "1@(A ", "1@(A )", "1@( A)", "1@(A  B)", "1@(A,B)", "1@(A, B)", "1@(AB", "1@ (A)", "1 @(A)", "1@(a)", "1@(1)", "1@(_A)", "1@(A-)", "1@(é)", "1@(A) ", "1@(A)@(B)", "1@(A)(B)", "1@[A]", "1@A", "1@(B A)", "1@(A A)", "1@(Ab A)", "1@(A C B)", "1@(A B B)", "1@(A b)", "1@(" + longName + ")", "[]@(B A)", "{1@(B A)}", "[1 | []@(A A)]",
	}
}

// P5.3: everything that is no notation, alone and in the places of values.
func TestParseRefuses(t *testing.T) {
	places := []string{"{", "}", "{1, ", "}", "[", "]", "[1, ", "]", "[1 | ", "]", "%{a: ", "}", "fun/1{(", ") -> !}", "fun/0{() -> ", "}", "{[%{a: fun/1{(1) -> ", "}}]@(A)}"}
	for _, s := range refused() {
		if v, code := valuetext.Parse(s); code != api.ErrSyntax || show(v) != show(api.Value{}) {
			t.Errorf("Parse(%q) = %s, %v", s, show(v), code)
		}
		for i := 0; i < len(places); i += 2 {
			checkExact(t, places[i]+s+places[i+1])
		}
	}
}

// P5.3: a notation cut short, or with something behind or before it.
func TestParseCutShort(t *testing.T) {
	for _, n := range valid() {
		for i := range n.s {
			checkExact(t, n.s[:i])
			checkExact(t, n.s[i+1:])
		}
		for _, more := range []string{" ", ",", ", 1", "}", "]", ")", "@", "@(", "@()", "\x00", "\n", " | []", "!", n.s} {
			checkExact(t, n.s+more)
			checkExact(t, more+n.s)
		}
	}
}

// checkExact tests that Parse(s) is a value with the notation s, or else ErrSyntax, and reports which one it is.
func checkExact(t *testing.T, s string) bool {
	t.Helper()
	v, code := valuetext.Parse(s)
	if code == api.OK && (notation(v) != s || !isValid(v)) || code != api.OK && (code != api.ErrSyntax || show(v) != show(api.Value{})) {
		t.Errorf("Parse(%q) = %s, %v", s, show(v), code)
	}
	return code == api.OK
}

// P5.3: the document's bound of nesting is 2^16 levels.
func TestDeepNesting(t *testing.T) {
	shells := []struct {
		before, behind string
		levels         int
	}{
		{"{", "}", 1}, {"{1, ", "}@(A)", 1}, {"[", "]", 1}, {"[1 | [", "]@(A)]", 2}, {"%{a: ", "}", 1}, {"fun/0{() -> ", "}", 1}, {"fun/1{(", ") -> !}", 1}, {"fun/1{(1) -> !, ({", "}) -> !}", 2},
	}
	for _, shell := range shells {
		n := (1<<16 - 1) / shell.levels
		s := strings.Repeat(shell.before, n) + "{}" + strings.Repeat(shell.behind, n)
		v, code := valuetext.Parse(s)
		if code != api.OK || valuetext.Format(v) != s {
			t.Errorf("%d times %s: %v", n, shell.before, code)
		}
		if _, code := valuetext.Parse(s[:len(s)-1]); code != api.ErrSyntax {
			t.Errorf("%d times %s, cut short: %v", n, shell.before, code)
		}
	}
}

// P5.3, R1: notations that are nested much deeper.
func TestNestingWithoutEnd(t *testing.T) {
	for _, shell := range []string{"{", "[", "[1 | ", "%{a: ", "fun/0{() -> ", "fun/1{(", "@(", "-", `"`, `\`, "#", "("} {
		if _, code := valuetext.Parse(strings.Repeat(shell, 1<<18)); code != api.ErrSyntax {
			t.Errorf("%s, many times: %v", shell, code)
		}
	}
}

// P5.3: a list is not nested in its notation, so it may have more elements than there are levels.
func TestLongList(t *testing.T) {
	defer debug.SetMaxStack(debug.SetMaxStack(1 << 23))
	elements := strings.Repeat("1, ", 1<<17)
	for _, s := range []string{"[" + elements + "1]", "[" + elements + "1 | []@(A)]@(B)", "fun/1{([" + elements + "1]) -> !, ([" + elements + "1 | []@(A)]) -> !}"} {
		v, code := valuetext.Parse(s)
		if code != api.OK || valuetext.Format(v) != s {
			t.Errorf("%s..: %v", s[:20], code)
		}
	}
	if _, code := valuetext.Parse("fun/1{([" + elements + "2]) -> !, ([" + elements + "1]) -> !}"); code != api.ErrSyntax {
		t.Errorf("entries out of order: %v", code)
	}
}
