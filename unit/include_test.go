package unit_test

import (
	"strings"
	"testing"

	"emend/api"
)

func TestJ3Include(t *testing.T) {
	holds(t, "", "x b y", "x | #include \"b\" | y", "b")
	holds(t, "", "x b y", "x | #include <b> | y", "b")
	holds(t, "", "b b", "#include \"b\" | #include <b>", "b")
	holds(t, "", "x y", "x | #include \"b\" | y", "")
	holds(t, "", "b c d c b", "#include \"b\"", "b | #include \"c\" | b", "c | #include \"d\" | c", "d")
	// What an included file defines and undefines is so behind it.
	holds(t, "", "N 3", "N | #include \"b\" | N", "#define N 3")
	holds(t, "", "3 N", "#define N 3 | N | #include \"b\" | N", "#undef N")
	holds(t, "", "3 x", "#define N 3 | #include \"b\" | #ifdef N | y | #else | x | #endif", "N | #undef N")
	holds(t, "", "1 2", "#define N 1 | #include \"b\" | #undef N | #define N 2 | #include \"b\"", "N")
	holds(t, "", "b", "#include \"b\" | #include \"b\" | #include \"b\"", "#ifndef B | #define B | b | #endif")
	// A target is what stands there: no macro in it is replaced.
	fails(t, "", api.ErrInclude, 0, 1, "#define B \"b\" | #include B", "b")
	fails(t, "b", api.ErrMissing, 0, 0, "#include <c>", "b")
	holds(t, "b", "x", "#include <b>", "x")
	for _, s := range []string{"", "b", "1", "\"b\" x", "\"b\" \"b\"", "<>", "<b", "<b> x", "'b'", "(\"b\")"} {
		fails(t, "", api.ErrInclude, 0, 2, "x | | #include "+s, "b")
	}
	for _, s := range []string{"\"no\"", "<no>", "\"\"", "\"B\"", "\" b\"", "\"b \"", "\"./b\"", "\"b\\\"\"", "<b b>"} {
		fails(t, "", api.ErrMissing, 0, 2, "x | | #include "+s, "b")
	}
}

// A path's file is the first one that has it; it may be any text.
func TestJ3IncludePaths(t *testing.T) {
	files := []api.File{
		{Path: "main", Text: "#include \"x\"\n#include <x>\n#include \"\"\n#include <sys/ a.h>\n#include \"main.\\\"\"\n"},
		{Path: "y"}, {Path: "x", Text: "first"}, {Path: "x", Text: "#error"}, {Path: "", Text: "none"}, {Path: "sys/ a.h", Text: "sys"}, {Path: "sys/a.h", Text: "#error"}, {Path: "main.\\\"", Text: "quoted"},
	}
	if got, f := same(t, files, "main", nil); shown(got) != "first first none sys quoted" || f != (api.Fault{}) {
		t.Errorf("%q, %v", shown(got), f)
	}
}

// Faults within included files are told with the file and the line where they are.
func TestJ3WrongIncluded(t *testing.T) {
	fails(t, "", api.ErrDirective, 1, 0, "x | #include \"b\"", "#foo")
	fails(t, "", api.ErrError, 2, 1, "x | #include \"b\"", "x | x | #include \"c\"", "y | #error")
	fails(t, "", api.ErrMissing, 1, 1, "#include \"b\"", "x | #include \"no\"")
	fails(t, "", api.ErrInclude, 1, 1, "#include \"b\"", "x | #include no")
	fails(t, "", api.ErrZero, 1, 2, "#include \"b\"", "x | # | #if 1/0 | #endif")
	fails(t, "", api.ErrExpr, 1, 1, "#include \"b\"", "#if 0 | #elif | #endif")
	fails(t, "", api.ErrName, 1, 3, "| | #include \"b\"", "x | y | z | #undef")
	fails(t, "", api.ErrParams, 1, 0, "#include \"b\"", "#define F(")
	fails(t, "", api.ErrName, 2, 0, "x | #include <c>", "", "#ifdef 1 | #endif")
	fails(t, "", api.ErrDirective, 0, 2, "#include \"b\" | #include \"b\" | #foo", "x")
	fails(t, "", api.ErrError, 1, 1, "#include \"b\" | #define N | #include \"b\"", "#ifdef N | #error | #endif")
	// A file that stands ahead of main has the lower number.
	files := []api.File{{Path: "b", Text: "x\n#error"}, {Path: "a", Text: "#\n#\n#include \"b\""}}
	if got, f := same(t, files, "a", nil); len(got) > 0 || f != (api.Fault{File: 0, Line: 1, E: api.ErrError}) {
		t.Errorf("%q, %v", shown(got), f)
	}
}

// What is wrong with conditionals is told ahead of all else of their file, when it is run.
func TestJ3Unmatched(t *testing.T) {
	for text, want := range map[string]api.Fault{
		"x | #else": {Line: 1, E: api.ErrElse}, "#elif 1": {E: api.ErrElse}, "x | y | #endif": {Line: 2, E: api.ErrElse}, "#if 1 | #else | #else | #endif": {Line: 2, E: api.ErrElse}, "#if 1 | #else | #elif 1 | #endif": {Line: 2, E: api.ErrElse}, "#if 0 | #endif | #endif": {Line: 2, E: api.ErrElse}, "x | #if 1": {Line: 1, E: api.ErrOpen}, "#ifdef A | #ifndef B | #endif": {E: api.ErrOpen}, "#if 0 | #else | #ifndef B": {Line: 2, E: api.ErrOpen}, "#if 0 | #if 0 | #else | #else": {Line: 3, E: api.ErrElse},
	} {
		fails(t, "", want.E, 0, want.Line, text)
		for _, ahead := range []string{"#foo", "#error", "#define", "#include \"no\"", "#include \"a\"", "F(", "#if 1/0 | #endif"} {
			fails(t, "", want.E, 0, want.Line+strings.Count(lines(ahead), "\n"), ahead+" | "+text)
		}
		fails(t, "", want.E, 1, want.Line, "x | #include \"b\"", text)
		fails(t, "", want.E, 2, want.Line, "x | #include \"b\" | #foo", "x | #include \"c\" | #foo", text)
		// A file that is not run, or not yet, may be wrong.
		holds(t, "", "x", "x", text)
		holds(t, "", "x", "x | #if 0 | #include \"b\" | #endif", text)
		fails(t, "", api.ErrDirective, 0, 1, "x | #foo | #include \"b\"", text)
		// What is open in a file isn't ended by another one, nor ended there.
		fails(t, "", want.E, 1, want.Line, "#if 1 | #include \"b\" | #else | #endif", text)
	}
	fails(t, "", api.ErrOpen, 0, 0, "#if 1 | #include \"b\"", "#endif")
	fails(t, "", api.ErrElse, 0, 1, "#include \"b\" | #endif", "#if 1")
}

// chain is n files, each of which but the last one includes the next one, behind as many lines as it has files ahead.
func chain(n int) []api.File {
	var out []api.File
	for i := range n {
		text := times(i, "\n")
		if i < n-1 {
			text += "#include \"" + string(rune('a'+i+1)) + "\"\n"
		}
		out = append(out, api.File{Path: string(rune('a' + i)), Text: text + "x\n"})
	}
	return out
}

// 8 files may be run one within the other.
func TestJ3Depth(t *testing.T) {
	for n := 1; n <= 8; n++ {
		if got, f := same(t, chain(n), "a", nil); len(got) != n || f != (api.Fault{}) {
			t.Errorf("%d files: %q, %v", n, shown(got), f)
		}
	}
	for _, n := range []int{9, 10, 20} {
		if got, f := same(t, chain(n), "a", nil); len(got) > 0 || f != (api.Fault{File: 7, Line: 7, E: api.ErrDepth}) {
			t.Errorf("%d files: %q, %v", n, shown(got), f)
		}
		if got, f := same(t, chain(n), string(rune('a'+n-8)), nil); len(got) != 8 || f != (api.Fault{}) {
			t.Errorf("the last 8 of %d files: %q, %v", n, shown(got), f)
		}
	}
	// The other errors of an Include are told ahead.
	for text, e := range map[string]api.Errno{"#include \"no\"": api.ErrMissing, "#include": api.ErrInclude, "#include \"a\"": api.ErrDepth} {
		files := chain(8)
		files[7].Text = text
		if got, f := same(t, files, "a", nil); len(got) > 0 || f != (api.Fault{File: 7, E: e}) {
			t.Errorf("%q in the last file: %q, %v", text, shown(got), f)
		}
	}
	// Files whose run is over are none within which others are run.
	files := chain(8)
	files = append(files, api.File{Path: "main", Text: times(3, "#include \"b\"\n")})
	if got, f := same(t, files, "main", nil); len(got) != 21 || f != (api.Fault{}) {
		t.Errorf("three times: %q, %v", shown(got), f)
	}
}

// A file may include itself, as long as it comes to an end.
func TestJ3Itself(t *testing.T) {
	fails(t, "", api.ErrDepth, 0, 1, "x | #include \"a\"")
	fails(t, "", api.ErrDepth, 1, 0, "#include \"b\"", "#include \"b\"")
	fails(t, "", api.ErrDepth, 1, 2, "x | #include \"b\"", "x | x | #include \"a\"")
	holds(t, "", "x y y", "#ifndef A | #define A | x | #include \"a\" | #endif | y")
	counted := "#ifndef A | #define A | #elif !defined B | #define B | #elif !defined C | #define C | #elif !defined D | #define D | #elif !defined E | #define E | #elif !defined F | #define F | #elif !defined G | #define G | #else | #define LAST | #endif | "
	holds(t, "", "x x x x x x x x", counted+"#ifndef LAST | #include \"a\" | #endif | x")
	holds(t, "", "x x x x x x x", counted+"#ifndef G | #include \"a\" | #endif | x")
	fails(t, "", api.ErrDepth, 1, 18, "#include \"b\"", counted+"#ifndef LAST | #include \"b\" | #endif | x")
}

// 60 Includes may be done, wherever they stand.
func TestJ3Includes(t *testing.T) {
	const one = "#include \"b\" | "
	holds(t, "", times(60, "b ")+"x", times(60, one)+"x", "b")
	fails(t, "", api.ErrDepth, 0, 60, times(61, one)+"x", "b")
	fails(t, "", api.ErrDepth, 0, 60, times(62, one)+"x", "")
	// Each of these is two, one within the other.
	holds(t, "", times(30, "b c ")+"x", times(30, one)+"x", "b | #include \"c\"", "c")
	fails(t, "", api.ErrDepth, 0, 30, times(31, one)+"x", "b | #include \"c\"", "c")
	fails(t, "", api.ErrDepth, 1, 1, "#include \"c\" | "+times(30, one)+"x", "b | #include \"c\"", "c")
	// Those that are not done do not count.
	holds(t, "", times(60, "b ")+"x", times(60, "#if 0 | #include \"b\" | #else | #include \"c\" | #endif | ")+"x", "x", "b")
	// The other errors of an Include are told ahead.
	fails(t, "", api.ErrMissing, 0, 60, times(60, one)+"#include \"no\"", "b")
	fails(t, "", api.ErrInclude, 0, 60, times(60, one)+"#include b", "b")
	// Where a file would be one too deep, what is wrong in it is not told.
	fails(t, "", api.ErrDepth, 0, 60, times(60, one)+"#include \"c\"", "b", "#endif")
}
