package presence_test

import (
	"slices"
	"strings"
	"testing"

	"emend/api"
	"emend/bdd"
	"emend/presence"
)

func TestL3Examples(t *testing.T) {
	reads(t, "all | all | 1 | all | 0 2 3 | all", "x | #if A && !defined B | y | #else | z | #endif")
	reads(t, "all | 1 3 | 3 | 1 3 | all", "#ifdef A | #ifdef B | x | #endif | #endif")
	wrong(t, api.ErrMixed, 0, "#if C | #endif")
	reads(t, "all | none | none | all", "#if 0 | #if C | #endif | #endif")
}

// As many names as the arena has, ahead of all that is wrong with lines.
func TestL3ErrArg(t *testing.T) {
	for vars := range 9 {
		for n := range 9 {
			for _, texts := range []string{"", "x", "#else", "#if 1", "#if 0 | #endif", "#if C D | #endif"} {
				nodes, line, e := presence.Lines(arena(t, vars), first(n), linesOf(parted(texts)...))
				if (e == api.ErrArg) != (n != vars) || e != api.OK && nodes != nil || e == api.ErrArg && line != 0 {
					t.Errorf("%d names of %d, %q: %v, %d, %d", n, vars, texts, nodes, line, e)
				}
			}
		}
	}
	if nodes, line, e := presence.Lines(arena(t, 2), first(3), linesOf("x", "#if 1", "#else", "#else")); nodes != nil || line != 0 || e != api.ErrArg {
		t.Errorf("%v, %d, %d", nodes, line, e)
	}
}

func TestL3NoConditionals(t *testing.T) {
	for _, none := range [][]api.Line{nil, {}} {
		if nodes, line, e := presence.Lines(arena(t, 2), first(2), none); len(nodes) > 0 || line != 0 || e != api.OK {
			t.Errorf("%v, %d, %d", nodes, line, e)
		}
	}
	reads(t, "all", "x")
	reads(t, "all | all | all", "x |  | y")
	reads(t, "all | all | all | all | all | all | all | all", "#define A 1 | #undef B | #include \"x\" | #error | #pragma x | #line 1 | # | #foo")
	for vars := range 9 {
		if got, line, e := sameLines(t, vars, []string{"A", "", "#define A"}); strings.Join(got, " ") != "all all all" || line != 0 || e != api.OK {
			t.Errorf("%d names: %v, %d, %d", vars, got, line, e)
		}
	}
}

// What is defined by lines changes no condition: the names are the configuration's.
func TestL3LinesOfOtherKinds(t *testing.T) {
	reads(t, "all | 1 3 | 1 3 | 1 3 | 1 3 | 1 3 | 1 3 | 1 3 | 1 3 | all | 0 2 | all", "#ifdef A | #define A 0 | #undef A | #include \"x\" | #error | #pragma x | #line 1 | # | #foo | #else | x | #endif")
	reads(t, "all | all | 1 3 | all | all | all | 0 2 | all", "#undef A | #if A | x | #endif | #define A 1 | #ifndef A | x | #endif")
}

func TestL3Branches(t *testing.T) {
	reads(t, "all | all", "#if A | #endif")
	reads(t, "all | 1 3 | all", "#if A | x | #endif")
	reads(t, "all | 1 3 | 1 3 | all | all", "#ifdef A | x | y | #endif | z")
	reads(t, "all | 1 3 | all | 0 2 | all", "#if A | x | #else | y | #endif")
	reads(t, "all | all | all | none | all", "#if 1 | x | #else | y | #endif")
	reads(t, "all | none | all | all | all", "#if 0 | x | #else | y | #endif")
	reads(t, "all | 1 3 | all | 2 | all", "#if A | x | #elif B | y | #endif")
	reads(t, "all | 1 3 | all | 2 | all | 0 | all | none | all", "#if A | x | #elif B | y | #elif 1 | z | #else | w | #endif")
	reads(t, "all | 3 | all | 1 | all | 2 | all | 0 | all", "#if A && B | x | #elif A | y | #elif B | z | #else | w | #endif")
	reads(t, "all | 1 3 | all | none | all | 2 | all | none | all | 0 | all", "#if A | x | #elif A | y | #elif A + B | z | #elif B | v | #else | w | #endif")
	reads(t, "all | 0 1 | all | 3 | all", "#ifndef B | x | #elif A + B > 1 | y | #endif")
	reads(t, "all | all | all | all | all", "#if A | #elif B | #elif !A | #else | #endif")
}

func TestL3WithinAndBehind(t *testing.T) {
	reads(t, "all | 1 3 | 1 3 | 3 | 1 3 | 1 | 1 3 | 1 3 | all | 0 2 | 0 2 | 2 | 0 2 | all", "#if A | x | #if B | y | #else | z | #endif | v | #else | w | #if B | y | #endif | #endif")
	reads(t, "all | 1 3 | none | 1 3 | 1 3 | 1 3 | all", "#if A | #if !A | x | #elif A | y | #endif | #endif")
	reads(t, "all | 1 3 | all | all | all | 2 3 | all | all", "#if A | x | #endif | y | #if B | z | #endif | w")
	reads(t, "all | 1 3 | all | all | 1 3 | all", "#if A | x | #endif | #if A | y | #endif")
	reads(t, "all | 1 3 | 3 | none | none | 3 | 1 3 | all | all", "#if A | #if B | #if A != B | #if 1/0 | #endif | #endif | #endif | #endif | x")
	reads(t, "all | all | 1 3 | 1 3 | 1 3 | all | all | all | 0 2 | all", "#if 1 | #if A | #if 1 | #endif | x | #endif | #endif | #if !A | y | #endif")
	reads(t, "all | 0 | all | 1 2 3 | 1 | 1 2 3 | 2 3 | 2 | 2 3 | 3 | 2 3 | 1 2 3 | all", "#if !(A || B) | x | #else | #if !B | y | #else | #if !A | z | #else | w | #endif | #endif | #endif")
}

// What no set asks for may be wrong.
func TestL3NotAsked(t *testing.T) {
	reads(t, "all | all | all | none | all", "#if 1 | x | #elif 1/0 | y | #endif")
	reads(t, "all | 1 3 | all | 0 2 | all | none | all | none | all", "#if A | x | #elif !A | y | #elif C | z | #elif | z | #endif")
	reads(t, "all | 1 3 | all | 0 2 | all | none | all", "#ifdef A | x | #elif 1 / !A | y | #elif 08 | z | #endif")
	reads(t, "all | none | none | none | none | none | none | none | none | all", "#if 0 | #if C | #elif | #ifdef | #elif 08 | #else | #endif | #endif | x | #endif")
	reads(t, "all | all | 1 3 | 1 3 | 1 3 | all", "#if !A | #else | #if 1 / A | x | #endif | #endif")
	reads(t, "all | 1 3 | none | none | none | 1 3 | all", "#if A | #if !A | #ifdef C D | #endif | x | #endif | #endif")
	reads(t, "all | all | all | all", "#if A && B | #elif !(A && B) | #elif 1/0 | #endif")
	wrong(t, api.ErrZero, 2, "#if A && B | #elif !(A || B) | #elif 1/0 | #endif")
	reads(t, "all | all | none | none | all", "#if 1 | #elif 1 | #ifdef | #endif | #endif")
}

// What is wrong with how lines hang together, ahead of all conditions.
func TestL3ErrElseErrOpen(t *testing.T) {
	wrong(t, api.ErrElse, 0, "#else", "#endif", "#elif A", "#elif C", "#else | #if A")
	wrong(t, api.ErrElse, 1, "x | #else", "x | #endif | #if C", "x | #elif 1/0")
	wrong(t, api.ErrElse, 2, "#if A | #else | #else | #endif", "#if A | #else | #elif B | #endif", "#if C | #endif | #endif", "#if 1/0 | #endif | #else", "#ifdef | #endif | #elif A")
	wrong(t, api.ErrElse, 3, "#if 0 | #if C | #else | #else | #endif | #endif")
	wrong(t, api.ErrOpen, 0, "#if A", "#ifdef A | x", "#ifndef | x", "#if C | #else", "#if 1/0 | #elif C | x", "#if C | #if 1/0 | #endif")
	wrong(t, api.ErrOpen, 1, "#if C | #if A | #else", "x | #ifdef", "#if 0 | #if C")
	wrong(t, api.ErrOpen, 4, "#if C | #endif | #if A | #endif | #if B")
}

// The first error of the conditions by lines, and its line.
func TestL3FirstError(t *testing.T) {
	for bad, e := range map[string]api.Errno{"#ifdef": api.ErrName, "#ifndef A B": api.ErrName, "#ifdef C": api.ErrMixed, "#if C": api.ErrMixed, "#if": api.ErrExpr, "#if 08": api.ErrNumber, "#if 1/0": api.ErrZero, "#if 1 << 64": api.ErrShift, "#if 1 / A": api.ErrZero, "#if A ? 1 : 1 << 64": api.ErrShift, "#if B && C": api.ErrMixed} {
		wrong(t, e, 0, bad+" | #endif", bad+" | x | #else | y | #endif")
		wrong(t, e, 1, "x | "+bad+" | #endif", "#if A == B | "+bad+" | #endif | #endif", "#if !A | "+bad+" | #elif C | #endif | #endif | #if C | #endif")
		wrong(t, e, 2, "#if A | #else | "+bad+" | #endif | #endif", "#if A | #elif 1 | "+bad+" | #endif | #endif", "#if A | #endif | "+bad+" | #endif")
		wrong(t, e, 3, "#if 1 | #elif C | #endif | "+bad+" | #endif | #ifdef | #endif")
		elif, ok := strings.CutPrefix(bad, "#if ")
		if !ok {
			continue
		}
		wrong(t, e, 1, "#if A && B | #elif "+elif+" | #endif", "#if 0 | #elif "+elif+" | #elif C | #else | #endif")
		wrong(t, e, 3, "#if A && B | x | y | #elif "+elif+" | #if 08 | #endif | #endif")
	}
	wrong(t, api.ErrZero, 1, "#if A | #elif 1/0 | #ifdef | #endif | #endif", "#if A | #elif 1/A | #else | #endif | #if 08 | #endif")
	wrong(t, api.ErrNumber, 1, "#if A | #if 08 | #endif | #elif 1/0 | #endif", "#if A | #if 08 | #if 1/0 | #endif | #endif | #endif")
	wrong(t, api.ErrName, 3, "#if A | #if B | x | #ifdef 1 | #endif | #endif | #elif 1/0 | #endif")
	wrong(t, api.ErrMixed, 4, "#if A | #if !A | #if 1/0 | #endif | #elif C | #endif | #else | #if 08 | #endif | #endif")
}

// What comes ahead of a branch is what its own line may be asked for: the error is told only where some set gets there.
func TestL3ErrorWhereAsked(t *testing.T) {
	reads(t, "all | 0 2 | all | 1 3 | all", "#if !A | x | #elif 1 / A | y | #endif")
	wrong(t, api.ErrZero, 2, "#if A | x | #elif 1 / A | y | #endif")
	reads(t, "all | 0 1 2 | all | 3 | all", "#if !A || !B | x | #elif 1 / (A && B) | y | #endif")
	reads(t, "all | 1 | all | 2 | all | 0 3 | all", "#if A && !B | x | #elif B && !A | y | #elif 1 / (A == B) | z | #endif")
	wrong(t, api.ErrShift, 4, "#if A && !B | x | #elif B && !A | y | #elif A ? 1 / 0 : 1 << 64 | z | #endif")
	wrong(t, api.ErrZero, 4, "#if A && !B | x | #elif !B && !A | y | #elif A ? 1 << 64 : 1 / 0 | z | #endif")
}

// The names may be none, or as many as there may be.
func TestL3OtherNames(t *testing.T) {
	if got, line, e := sameLines(t, 0, parted("#if 1 | x | #else | y | #endif")); !slices.Equal(got, []string{"all", "all", "all", "none", "all"}) || line != 0 || e != api.OK {
		t.Errorf("%q, %d, %d", got, line, e)
	}
	if got, line, e := sameLines(t, 0, parted("x | #if A | #endif")); got != nil || line != 1 || e != api.ErrMixed {
		t.Errorf("%q, %d, %d", got, line, e)
	}
	if got, line, e := sameLines(t, 1, parted("#if A | x | #else | y | #endif")); !slices.Equal(got, []string{"all", "1", "all", "0", "all"}) || line != 0 || e != api.OK {
		t.Errorf("%q, %d, %d", got, line, e)
	}
	sameLines(t, 8, parted("#if A + B + C + D + E + F + G + H > 4 | x | #elif A ^ H | #ifdef D | y | #endif | z | #else | #ifndef H | w | #elif A | v | #else | u | #endif | #endif"))
	a := arena(t, 1)
	nodes, _, e := presence.Lines(a, []string{"_x"}, linesOf("#ifdef _x", "y", "#endif"))
	if n, _ := a.Var(0); !slices.Equal(nodes, []bdd.Node{1, n, 1}) || e != api.OK {
		t.Errorf("%v, %d", nodes, e)
	}
}
