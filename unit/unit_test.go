package unit_test

import (
	"reflect"
	"strings"
	"testing"

	"emend/api"
	"emend/unit"
)

func TestFind(t *testing.T) {
	some := []api.File{{Path: "a", Text: "1"}, {Path: "x/b.h"}, {Path: "a", Text: "2"}, {Path: ""}, {Path: "b.h"}, {}}
	for path, want := range map[string]int{"a": 0, "x/b.h": 1, "": 3, "b.h": 4, "c": -1, "A": -1, "a ": -1, "./a": -1, "1": -1, "x": -1, "b": -1, "x/b.hh": -1, "\x00": -1} {
		if got := unit.Find(some, path); got != want {
			t.Errorf("%q: %d, not %d", path, got, want)
		}
		for _, none := range [][]api.File{nil, {}, some[:0]} {
			if got := unit.Find(none, path); got != -1 {
				t.Errorf("%q of no files: %d", path, got)
			}
		}
	}
	for n := range some {
		if got := unit.Find(some[n:n+1], some[n].Path); got != 0 {
			t.Errorf("%q alone: %d", some[n].Path, got)
		}
	}
}

// one is the macro that a name of defs has.
func one(name string) api.Macro {
	return api.Macro{Name: name, Body: []api.Tok{{Kind: api.Number, Text: "1", File: -1}}}
}

func TestJ1First(t *testing.T) {
	for defs, want := range map[string]string{
		"": "", "A": "A", "A B": "A B", "B A": "B A", "A A": "A", "A B A": "A B", "B A A B A C": "B A C", "_ a0 _1 int if define x__VA_ARGS__ Defined definedx defined_": "_ a0 _1 int if define x__VA_ARGS__ Defined definedx defined_", "A a": "A a",
	} {
		var all []api.Macro
		for _, name := range strings.Fields(want) {
			all = append(all, one(name))
		}
		if got, e := unit.First(strings.Fields(defs)); !reflect.DeepEqual(got, all) || e != api.OK {
			t.Errorf("%q: %+v, %d", defs, got, e)
		}
	}
}

// wrongNames are no macros' names.
var wrongNames = []string{
	"", "1", "1A", "+", "A B", " A", "A ", "A\n", "\nA", "\n", " ", "A(x)", "A=1", "A/**/", "/**/A", "A//", "A\\\nB", "\\\nA", "A\\\n", "\\", "\"A\"", "'A'", "\"", "#", "\x00", "A\x00", "ä", "A-", "-A", ".A", "A.B",
	"defined", "__VA_ARGS__",
}

func TestJ1Wrong(t *testing.T) {
	for _, s := range wrongNames {
		for _, defs := range [][]string{{s}, {"A", s}, {s, "A"}, {"A", "A", s, "B"}, {s, s}} {
			if got, e := unit.First(defs); len(got) > 0 || e != api.ErrName {
				t.Errorf("First of %q: %+v, %d", defs, got, e)
			}
			for main, files := range map[string][]api.File{"a": {{Path: "a", Text: "x"}}, "no": {{Path: "a"}}, "": nil} {
				if got, f := same(t, files, main, defs); len(got) > 0 || f != (api.Fault{E: api.ErrName}) {
					t.Errorf("Run of %q in %v, %q: %+v, %v", main, files, defs, got, f)
				}
			}
		}
	}
}

func TestJ2Main(t *testing.T) {
	some := []api.File{{Path: "a", Text: "in a"}, {Path: "b", Text: "in b"}, {Path: "a", Text: "in another one"}, {Path: "", Text: "of no name"}}
	for main, want := range map[string]string{"a": "in a", "b": "in b", "": "of no name"} {
		if got, f := same(t, some, main, nil); shown(got) != want || f != (api.Fault{}) {
			t.Errorf("%q: %q, %v", main, shown(got), f)
		}
	}
	for _, main := range []string{"c", "A", "a ", "\"a\"", "\xff"} {
		for _, defs := range [][]string{nil, {"A", "B"}} {
			if got, f := same(t, some, main, defs); len(got) > 0 || f != (api.Fault{E: api.ErrFile}) {
				t.Errorf("%q: %q, %v", main, shown(got), f)
			}
		}
	}
	for _, none := range [][]api.File{nil, {}} {
		if got, f := same(t, none, "", nil); len(got) > 0 || f != (api.Fault{E: api.ErrFile}) {
			t.Errorf("of no files: %q, %v", shown(got), f)
		}
	}
}

// What defs define is there at first, in each file.
func TestJ2First(t *testing.T) {
	holds(t, "", "A B", "A B")
	holds(t, "A", "1 B", "A B")
	holds(t, "A B", "1 1", "A B")
	holds(t, "A", "1 1", "A | #include \"b\"", "A")
	holds(t, "A", "yes", "#if A == 1 && defined A && !defined(B) | yes | #endif")
	holds(t, "F", "1 ( 2 )", "F(2)")
	// A name of defs is defined again as any other one is.
	holds(t, "A", "1 1", "A | #define A 1 | A")
	holds(t, "A", "1 1", "A | #define A      1 | A")
	fails(t, "A", api.ErrRedef, 0, 1, "A | #define A 2")
	fails(t, "A", api.ErrRedef, 0, 0, "#define A")
	fails(t, "A", api.ErrRedef, 0, 0, "#define A 01")
	fails(t, "A", api.ErrRedef, 0, 0, "#define A '1'")
	fails(t, "A", api.ErrRedef, 0, 0, "#define A() 1")
	fails(t, "A", api.ErrRedef, 0, 0, "#define A 1 1")
	fails(t, "B A", api.ErrRedef, 1, 2, "#include \"b\"", "x | #define B 1 | #define A 2")
	holds(t, "A", "1 A 2", "A | #undef A | A | #define A 2 | A")
	holds(t, "A", "no", "#undef A | #ifdef A | yes | #else | no | #endif")
}

// The chapter's examples, and those of the whole that are of this layer.
func TestExamples(t *testing.T) {
	holds(t, "", "int y ;", "#ifdef A | int x; | #else | int y; | #endif")
	holds(t, "A", "int x ;", "#ifdef A | int x; | #else | int y; | #endif")
	holds(t, "", "3", "#include \"b\" | N", "#define N 3")
	holds(t, "", "1", "#define F(x) x | F( | 1)")
	fails(t, "", api.ErrOpen, 0, 0, "#if 1/0")
	fails(t, "", api.ErrDirective, 0, 0, "#foo")
	fails(t, "", api.ErrDepth, 0, 0, "#include \"a\"")
	holds(t, "", "int x = 3 ;", "#define N 3 | int x = N;")
	holds(t, "", "x + 1", "#define x x + 1 | x")
	fails(t, "", api.ErrZero, 0, 0, "#if 1 / 0 | #endif")
	holds(t, "", "y", "#if 0 && 1 / 0 | x | #endif | y")
}

// Each token knows where it was written, and whether a blank stands ahead of it, as the first one of each run.
func TestPlaces(t *testing.T) {
	files := []api.File{
		{Path: "b", Text: "#define N 30\n#define F(a) (a)-N\n"},
		{Path: "a", Text: "#include \"b\"\n+N;\nF(A)\n#\n+ x\\\ny\n"},
	}
	want := []api.Tok{
		{Kind: api.Punct, Text: "+", File: 1, From: 13, To: 14, Blank: true},
		{Kind: api.Number, Text: "30", File: 0, From: 10, To: 12},
		{Kind: api.Punct, Text: ";", File: 1, From: 15, To: 16},
		{Kind: api.Punct, Text: "(", File: 0, From: 26, To: 27, Blank: true},
		{Kind: api.Number, Text: "1", File: -1},
		{Kind: api.Punct, Text: ")", File: 0, From: 28, To: 29},
		{Kind: api.Punct, Text: "-", File: 0, From: 29, To: 30},
		{Kind: api.Number, Text: "30", File: 0, From: 10, To: 12},
		{Kind: api.Punct, Text: "+", File: 1, From: 24, To: 25, Blank: true},
		{Kind: api.Ident, Text: "xy", File: 1, From: 26, To: 30, Blank: true},
	}
	got, f := same(t, files, "a", []string{"A"})
	if !reflect.DeepEqual(got, want) || f != (api.Fault{}) {
		t.Errorf("%+v, %v", got, f)
	}
}
