package presence_test

import (
	"reflect"
	"slices"
	"strings"
	"testing"

	"emend/api"
	"emend/bdd"
	"emend/presence"
)

// The numbers that this layer tells, and the kinds that it asks for, are the document's.
func TestNumbers(t *testing.T) {
	if api.OK != 0 || api.ErrArg != 1 || api.ErrElse != 50 || api.ErrOpen != 51 || api.ErrName != 60 || api.ErrSteps != 82 || api.ErrExpr != 90 || api.ErrNumber != 91 || api.ErrZero != 92 || api.ErrShift != 93 || api.ErrMixed != 120 || api.MaxVars != 8 {
		t.Error("errors")
	}
	if api.Ident != 1 || api.Text != 1 || api.If != 2 || api.Ifdef != 3 || api.Ifndef != 4 || api.Elif != 5 || api.Else != 6 || api.Endif != 7 {
		t.Error("kinds")
	}
}

const many = 1 << 16

// R1: very many conditionals, branches and lines, with as many names as there may be, in about as many steps as there are of them.
func TestR1Many(t *testing.T) {
	t.Parallel()
	check := func(texts []string, where, want int) {
		t.Helper()
		a := arena(t, 8)
		nodes, line, e := presence.Lines(a, first(8), linesOf(texts...))
		if len(nodes) != len(texts) || line != 0 || e != api.OK || len(presence.Where(a, nodes[where])) != want {
			t.Errorf("%q: %d conditions, %d, %d", texts[:3], len(nodes), line, e)
		}
	}
	check(slices.Repeat([]string{"x"}, many), many-1, 256)
	check(slices.Repeat([]string{"#if C", "x", "#else", "#endif"}, many/4), many-3, 128)
	check(slices.Repeat([]string{"#ifdef H", "x", "#endif"}, many/4), 1, 128)
	check(slices.Concat([]string{"#if A == C"}, slices.Repeat([]string{"#elif A && H > 1", "x"}, many/4), []string{"#else", "x", "#endif"}), 2+many/2, 128)
	check(slices.Concat([]string{"#if 0"}, slices.Repeat([]string{"x"}, many), []string{"#endif"}), many, 0)
}

// R1: conditionals that stand as deep as the document's bounds allow.
func TestR1Deep(t *testing.T) {
	t.Parallel()
	for _, text := range []string{"#ifndef A", "#if 0", "#if A == B"} {
		texts := slices.Concat(slices.Repeat([]string{text}, many), []string{"x"}, slices.Repeat([]string{"#endif"}, many))
		a := arena(t, 3)
		nodes, line, e := presence.Lines(a, first(3), linesOf(texts...))
		if len(nodes) != 2*many+1 || line != 0 || e != api.OK {
			t.Fatalf("%q: %d conditions, %d, %d", text, len(nodes), line, e)
		}
		if nodes[0] != 1 || nodes[1] != nodes[many] || nodes[many+1] != nodes[many-1] || nodes[2*many] != 1 {
			t.Errorf("%q: %d, %d, %d, %d, %d", text, nodes[0], nodes[1], nodes[many], nodes[many+1], nodes[2*many])
		}
		if nodes, line, e := presence.Lines(a, first(3), linesOf(texts[:2*many]...)); nodes != nil || line != 0 || e != api.ErrOpen {
			t.Errorf("%q without its last end: %d, %d, %d", text, len(nodes), line, e)
		}
	}
}

// R1: very long conditions.
func TestR1Long(t *testing.T) {
	t.Parallel()
	a := arena(t, 8)
	for text, want := range map[string]api.Errno{
		"#if A" + strings.Repeat(" + A", many):                          api.ErrSteps,
		"#if " + strings.Repeat("(", many) + "A":                        api.ErrSteps,
		"#if A" + strings.Repeat(" || C", many) + " || I":               api.ErrMixed,
		"#if" + strings.Repeat(" defined A", many):                      api.ErrSteps,
		"#if 1" + strings.Repeat(" || defined(H)", many):                api.ErrSteps,
		"#if" + strings.Repeat(" defined", many):                        api.ErrSteps,
		"#if" + strings.Repeat(" defined", 2*3000-1):                    api.ErrExpr,
		"#ifdef" + strings.Repeat(" A", many):                           api.ErrName,
		"#else" + strings.Repeat(" A", many):                            api.OK,
		"#if A" + strings.Repeat(" + B + C + D + E + F + G + H", 140):   api.OK,
		"#if A" + strings.Repeat(" ^ defined B ^ defined (H)", 900):     api.OK,
		"#if !" + strings.Repeat("!", 58) + "(A - B - C - D) / (H + 1)": api.OK,
	} {
		if n, e := presence.Cond(a, first(8), linesOf(text)[0], 1); e != want || e != api.OK && n != 0 {
			t.Errorf("%.20q: %d, %d, not %d", text, n, e, want)
		}
	}
}

// R1: nothing is promised of what is no condition of the arena, nor of names that no macro can have; but that a call ends.
func TestR1NothingPromised(t *testing.T) {
	a := arena(t, 2)
	for _, n := range []bdd.Node{-1, -1 << 63, 2, 99, 1<<63 - 1} {
		presence.Where(a, n)
		for _, text := range []string{"#else", "#ifdef A", "#ifndef A", "#if A", "#if 1", "#if 1/0", "#elif C"} {
			presence.Cond(a, first(2), linesOf(text)[0], n)
		}
	}
	for _, names := range [][]string{{"A", "A"}, {"", "+"}, {"defined", "__VA_ARGS__"}, {"1", "\xff"}} {
		for _, text := range []string{"#else", "#ifdef A", "#if A", "#if defined A", "#if __VA_ARGS__", "#if 1"} {
			presence.Cond(a, names, linesOf(text)[0], 1)
			presence.Lines(a, names, linesOf(text, "#endif"))
		}
	}
	var none *bdd.Arena
	if got := presence.Where(none, 0); len(got) > 0 {
		t.Errorf("%v", got)
	}
	presence.Cond(none, nil, linesOf("#if 1")[0], 1)
	presence.Cond(none, first(1), linesOf("#if A")[0], 1)
	presence.Lines(none, nil, linesOf("#if 1", "x", "#endif"))
}

// wrongLines are lines that have an error, of each kind that there is.
var wrongLines = map[string]api.Errno{
	"x | #else": api.ErrElse, "#if A && B | #if B": api.ErrOpen, "#if A && B | #ifdef | #endif | #endif": api.ErrName, "#if A && B | #if !A | #elif A || C | #endif | #endif": api.ErrMixed,
	"#if A ^ B | #elif A + | #endif": api.ErrExpr, "#if B > A | #else | #if 08 | #endif | #endif": api.ErrNumber, "#if A == B | #if A | x | #else | #if 1 / B | #endif | #endif | #endif": api.ErrZero, "#ifndef B | #if A ? 1 << 64 : 1 | #endif | #endif": api.ErrShift,
	"#if A && B | #endif | #if !B && !A | #elif A && 1 / !B | #endif": api.ErrZero,
}

// R3: with an error nothing else is told, but the line of Lines; and nothing that a later call tells is another one: also the numbers of conditions are those that they would have had.
func TestR3ErrorsLeaveNothing(t *testing.T) {
	later := func(a *bdd.Arena) []bdd.Node {
		var out []bdd.Node
		for _, barred := range []string{"#if A == B | x | #elif A | y | #else | z | #endif", "#ifdef B | #if A | x | #endif | #endif", "#ifndef A | x | #endif"} {
			nodes, _, _ := presence.Lines(a, first(2), linesOf(parted(barred)...))
			out = append(out, nodes...)
		}
		for i := range 2 {
			n, _ := a.Var(i)
			out = append(out, n)
		}
		n, _ := presence.Cond(a, first(2), linesOf("#if A ^ B")[0], 1)
		return append(out, n)
	}
	want := later(arena(t, 2))
	for barred, e := range wrongLines {
		a := arena(t, 2)
		for range 3 {
			if nodes, _, f := presence.Lines(a, first(2), linesOf(parted(barred)...)); nodes != nil || f != e {
				t.Fatalf("%q: %v, %d, not %d", barred, nodes, f, e)
			}
		}
		if nodes, line, f := presence.Lines(a, first(3), linesOf("#if A")); nodes != nil || line != 0 || f != api.ErrArg {
			t.Fatalf("%v, %d, %d", nodes, line, f)
		}
		if got := later(a); !slices.Equal(got, want) {
			t.Errorf("behind %q: %v, not %v", barred, got, want)
		}
	}
	a := arena(t, 2)
	for text, e := range map[string]api.Errno{"#if A ? B ? 1 / 0 : 1 : B": api.ErrZero, "#if A + B + 08": api.ErrNumber, "#elif B << 64": api.ErrShift, "#if B + A + C": api.ErrMixed, "#ifdef B A": api.ErrName, "#ifndef C": api.ErrMixed, "#if A B": api.ErrExpr, "#endif": api.ErrArg} {
		if n, f := presence.Cond(a, first(2), linesOf(text)[0], 1); n != 0 || f != e {
			t.Errorf("%q: %d, %d, not %d", text, n, f, e)
		}
	}
	if got := later(a); !slices.Equal(got, want) {
		t.Errorf("behind errors of Cond: %v, not %v", got, want)
	}
}

// R4: a nil list and an empty one are the same, within other data too.
func TestR4NoLists(t *testing.T) {
	a := arena(t, 0)
	for _, names := range [][]string{nil, {}} {
		for _, toks := range [][]api.Tok{nil, {}} {
			for kind, want := range map[int]api.Errno{api.If: api.ErrExpr, api.Ifdef: api.ErrName, api.Ifndef: api.ErrName, api.Elif: api.ErrExpr, api.Else: api.OK, api.Endif: api.ErrArg} {
				if _, e := presence.Cond(a, names, api.Line{Kind: kind, Toks: toks}, 1); e != want {
					t.Errorf("kind %d: %d", kind, e)
				}
			}
			if nodes, line, e := presence.Lines(a, names, []api.Line{{Kind: api.Text, Toks: toks}}); !slices.Equal(nodes, []bdd.Node{1}) || line != 0 || e != api.OK {
				t.Errorf("%v, %d, %d", nodes, line, e)
			}
		}
		if nodes, line, e := presence.Lines(a, names, nil); len(nodes) > 0 || line != 0 || e != api.OK {
			t.Errorf("%v, %d, %d", nodes, line, e)
		}
	}
}

// R5: what is handed in stays as it was, also what stands behind its end; what is answered is its receiver's own.
func TestR5NothingIsChanged(t *testing.T) {
	texts := parted("x | #if defined A && B | y | #elif defined(B) | #ifdef A | z | #endif | #else | #ifndef B | w | #endif | #endif | v")
	names, lines := first(3), linesOf(texts...)
	a := arena(t, 2)
	for range 3 {
		nodes, _, e := presence.Lines(a, names[:2], lines)
		if e != api.OK || len(nodes) != len(texts) || nodes[0] != 1 {
			t.Fatalf("%v, %d", nodes, e)
		}
		presence.Lines(a, names[:2], lines[:5])
		presence.Lines(a, names[:2], lines[3:])
		for i := range nodes[:cap(nodes)] {
			nodes[:cap(nodes)][i] = -9
		}
		for _, l := range lines {
			n, _ := presence.Cond(a, names[:2], l, 1)
			sets := presence.Where(a, n)
			for i := range sets[:cap(sets)] {
				sets[:cap(sets)][i] = -9
			}
		}
		if !reflect.DeepEqual(lines, linesOf(texts...)) || !slices.Equal(names, first(3)) {
			t.Fatalf("%v, %q", lines, names)
		}
	}
}

// R6, R8: a call hangs on its arguments and on the arena alone, and two calls with the same ones choose alike.
func TestR6NothingIsKept(t *testing.T) {
	const barred = "#if A == B | x | #elif A | y | #elif B | z | #else | w | #endif | #if A && B | v | #endif"
	a, b := arena(t, 2), arena(t, 2)
	want, _, _ := presence.Lines(a, first(2), linesOf(parted(barred)...))
	for range 20 {
		for _, arena := range []*bdd.Arena{a, b} {
			got, line, e := presence.Lines(arena, first(2), linesOf(parted(barred)...))
			if !slices.Equal(got, want) || line != 0 || e != api.OK {
				t.Fatalf("%v, %d, %d, not %v", got, line, e, want)
			}
		}
		other := arena(t, 2)
		presence.Lines(other, []string{"B", "A"}, linesOf(parted(barred)...))
		presence.Lines(other, first(2), linesOf("#if 1 / B", "#endif"))
		presence.Lines(a, first(2), linesOf("#if 1 / B", "#endif"))
	}
	// The same names in another order are other conditions.
	turned, _, _ := presence.Lines(a, []string{"B", "A"}, linesOf("#ifdef A", "x", "#endif"))
	straight, _, _ := presence.Lines(a, first(2), linesOf("#ifdef B", "x", "#endif"))
	if !slices.Equal(turned, straight) {
		t.Errorf("%v, %v", turned, straight)
	}
}
