package unit_test

import (
	"testing"

	"emend/api"
	"emend/pptok"
)

func TestJ3Runs(t *testing.T) {
	for text, want := range map[string]string{
		"": "", "\n": "", "\n\n\n\n": "", " \t \n  /* x */ \n// y": "", "\\\n": "", "x": " x", "  x": " x", "\n\nx": " x", "x\ny": " x y", "x\n\n\ny": " x y", "x+y\n+z": " x+y +z", "x\\\ny": " xy", "x # if\ny": " x # if y", "#\nx": " x", "x\n#\n+\n#": " x +", "+\n\n#pragma\n\n-\n\n": " + -", "x\r\n+\f": " x +", "/* # if\n */ x": " x",
	} {
		if got, f := seen(t, "", []string{text}); pptok.Print(got) != want || f != (api.Fault{}) {
			t.Errorf("%q: %q, %v, not %q", text, pptok.Print(got), f, want)
		}
	}
}

// Of each run the first token has Blank, whatever stood ahead of it.
func TestJ3Blanks(t *testing.T) {
	for text, want := range map[string]string{
		"#define E\nE+x": " +x", "#define E\nE +x": " +x", "#define E\nE\n+x": " +x", "#define E\nE\n#\n+x": " +x", "#define P +\nP-P": " +-+", "#define S(a) a\nS( -)-S(-)": " ---", "#define S(a) #a\nS( x\n  y)\n+": " \"x y\" +", "#if 1\n+\n#endif\n-\n#if 1\n#else\n#endif\n*": " + - *", "#include \"b\"\n+": " - +", "+\n#include \"b\"\n": " + -",
	} {
		if got, f := seen(t, "", []string{text, "-"}); pptok.Print(got) != want || f != (api.Fault{}) {
			t.Errorf("%q: %q, %v, not %q", text, pptok.Print(got), f, want)
		}
	}
}

// An invocation goes on over the lines of a run, and no farther.
func TestJ3Invocations(t *testing.T) {
	holds(t, "", "[ 1 ] [ 2 3 ]", "#define F(a) [a] | F | ( | 1 | ) F(2 |  |  | 3)")
	holds(t, "", "F ( 1 )", "#define F(a) [a] | F | #pragma | (1)")
	holds(t, "", "F ( 1 )", "#define F(a) [a] | F | #if 0 | #endif | (1)")
	holds(t, "", "F ( 1 )", "#define F(a) [a] | #include \"b\" | (1)", "F")
	holds(t, "", "F ( 1 )", "#define F(a) [a] | F | #include \"b\"", "(1)")
	holds(t, "", "( 1 )", "#define F(a) [a] | #define E | E | #if 1 | (1) | #endif")
	holds(t, "", "F ( 1 )", "#define F(a) [a] | #if 1 | F | #endif | (1)")
	holds(t, "", "F ( 1 )", "#define F(a) [a] | F | #if 1 | (1) | #endif")
	holds(t, "", "F ( 1 )", "F | #define F(a) [a] | (1)")
	holds(t, "", "[ 1 ]", "#define F(a) [a] | #if 1 | F | (1) | #endif")
	for _, between := range []string{"#", "#pragma", "#line 1", "#define X", "#undef X", "#undef F", "#if 0 | #endif", "#if 1 | #endif", "#ifdef F | 1 | #endif", "#ifdef X | #else | 1) | #endif", "#include \"b\"", "#include \"c\""} {
		fails(t, "", api.ErrArgs, 0, 3, "#define F(a) [a] | x | # | | F( | "+between+" | 1)", "", "1)")
	}
	fails(t, "", api.ErrArgs, 1, 0, "#define F(a) [a] | #include \"b\" | 1)", "F(")
	fails(t, "", api.ErrArgs, 0, 2, "#define F(a) [a] | #if 1 | F( | #endif | 1)")
}

// An error of a run is told at its first line, wherever it is met.
func TestJ3WrongRuns(t *testing.T) {
	fails(t, "", api.ErrCount, 0, 1, "#define F(a) a | F(1,2)")
	fails(t, "", api.ErrCount, 0, 1, "#define F(a) a | x | | y | F(1,2)")
	fails(t, "", api.ErrCount, 0, 1, "#define F(a) a | | | | F(1,2)")
	fails(t, "", api.ErrCount, 0, 4, "#define F(a) a | x | y | # | x | F(1,2)")
	fails(t, "", api.ErrCount, 0, 3, "#define F(a) a | x | #if 1 | x | F(1,2) | #endif")
	fails(t, "", api.ErrCount, 0, 5, "#define F(a) a | x | #if 1 | x | #endif | x | F(1,2)")
	fails(t, "", api.ErrGlue, 0, 1, "#define G(a, b) a##b | x | G(+, x)")
	fails(t, "", api.ErrSteps, 0, 1, "#define X | x | "+times(1001, "X "))
	fails(t, "", api.ErrCount, 1, 2, "#define F(a) a | x | #include \"b\"", "x | # | x | F(1,2)")
	// What is wrong first is told.
	fails(t, "", api.ErrCount, 0, 1, "#define F(a) a | F(1,2) | #foo")
	fails(t, "", api.ErrDirective, 0, 1, "#define F(a) a | #foo | F(1,2)")
	// 1000 tokens may be replaced in each run.
	holds(t, "", "", "#define X | "+times(1000, "X ")+" | # | "+times(1000, "X "))
}

func TestJ3Conditionals(t *testing.T) {
	holds(t, "", "0 x 1", "0 | #if 1 | x | #endif | 1")
	holds(t, "", "0 1", "0 | #if 0 | x | #endif | 1")
	holds(t, "", "y", "#if 0 | x | #elif 1 | y | #elif 1 | z | #else | w | #endif")
	holds(t, "", "x", "#if 1 | x | #elif 1 | y | #else | w | #endif")
	holds(t, "", "w", "#if 0 | x | #elif 0 | y | #elif 0 | z | #else | w | #endif")
	holds(t, "", "", "#if 0 | x | #elif 0 | y | #endif")
	holds(t, "", "z", "#ifdef A | x | #elif B | y | #elif !A | z | #endif")
	holds(t, "", "a c e", "#if 1 | a | #if 0 | b | #else | c | #if 0 | d | #endif | #endif | e | #endif")
	holds(t, "A B", "1", "#ifdef A | #ifdef B | 1 | #else | 2 | #endif | #else | #ifdef B | 3 | #else | 4 | #endif | #endif")
	holds(t, "A", "2", "#ifdef A | #ifdef B | 1 | #else | 2 | #endif | #else | #ifdef B | 3 | #else | 4 | #endif | #endif")
	holds(t, "B", "3", "#ifdef A | #ifdef B | 1 | #else | 2 | #endif | #else | #ifdef B | 3 | #else | 4 | #endif | #endif")
	holds(t, "", "4", "#ifdef A | #ifdef B | 1 | #else | 2 | #endif | #else | #ifdef B | 3 | #else | 4 | #endif | #endif")
	// What a branch defines is there behind it; conditions are asked when they are met.
	holds(t, "", "2", "#if 1 | #define A 2 | #endif | A")
	holds(t, "", "A", "#if 0 | #define A 2 | #endif | A")
	holds(t, "", "x", "#ifndef A | #define A | x | #endif | #ifndef A | #define A | y | #endif")
	holds(t, "", "x", "#ifndef A | #define A | x | #elif defined A | y | #else | z | #endif")
	// Else and Endif are not asked what they say.
	holds(t, "", "x", "#if 0 | #else foo 1 | x | #endif bar | #if 1 | #endif 08")
}

// Conditions behind the first one that holds are not asked, and lines of branches that are not run do nothing.
func TestJ3NotRun(t *testing.T) {
	nowhere := func(s string) {
		holds(t, "", "x", "#define F(a) a | #if 0 | y | #if 0 | "+s+" | #endif | z | #else | x | #endif")
		holds(t, "", "x", "#define F(a) a | #if 1 | x | #else | #if 0 | "+s+" | #endif | #endif")
	}
	for _, s := range []string{"#if", "#if 1/0", "#if 08", "#if defined", "#if F(", "#if F(1,2)", "#ifdef", "#ifdef 1", "#ifdef A B", "#ifndef", "#ifndef +"} {
		nowhere(s + " | #endif")
	}
	for _, s := range []string{"#elif", "#elif 1/0", "#elif 1 << 64", "#elif defined +", "#elif F(", "#elif F(1,2)", "#elif 08"} {
		nowhere(s)
		holds(t, "", "x", "#define F(a) a | #if 1 | x | "+s+" | y | #endif")
		holds(t, "", "x", "#define F(a) a | #if 0 | #elif 1 | x | "+s+" | y | #else | z | #endif")
	}
	for _, s := range []string{"#foo", "#error x", "#12", "#define", "#define 1", "#define X+", "#define N 2", "#undef N", "#undef", "#undef 1", "#include", "#include \"no\"", "#include \"a\"", "#include \"b\"", "F(", "F(1,2)", "#pragma", "#line", "#"} {
		holds(t, "", "x 1", "#define F(a) a | #define N 1 | #if 0 | "+s+" | #else | x N | #endif", "#error")
		holds(t, "", "x 1", "#define F(a) a | #define N 1 | #if 1 | x N | #elif 1 | "+s+" | #else | "+s+" | #endif", "#error")
		holds(t, "", "x 1", "#define F(a) a | #define N 1 | #if 1 | x N | #else | #if 1 | "+s+" | #endif | #endif", "#error")
	}
}

func TestJ3Define(t *testing.T) {
	holds(t, "", "N 3 4 5", "N | #define N 3 | N | #undef N | #define N 4 | N | #undef N | #define N 5 | N")
	holds(t, "", "3 N", "#define N 3 | N | #undef N | N | #undef N")
	holds(t, "", "3 3 3", "#define N 3 | N | #define N 3 | N | #define N /* */ 3 // x | N")
	holds(t, "", "1 + 2", "#define F(a, b) a+b | #define F( a,b ) a+b | F(1,2)")
	holds(t, "", "3 M", "#define N 3 | #define M N | M | #undef M | #undef N | M")
	holds(t, "", "M N 3", "M | #define M N | M | #define N 3 | M")
	holds(t, "", "ab cd", "#define G(a, b) a##b | G(a, b) | #define ab cd | G(a, b)")
	fails(t, "", api.ErrRedef, 0, 2, "#define N 3 | N | #define N 4")
	fails(t, "", api.ErrRedef, 0, 1, "#define N 3 | #define N")
	fails(t, "", api.ErrRedef, 0, 1, "#define N | #define N 3")
	fails(t, "", api.ErrRedef, 0, 1, "#define N 3+4 | #define N 3 +4")
	fails(t, "", api.ErrRedef, 0, 1, "#define N 3 | #define N() 3")
	fails(t, "", api.ErrRedef, 0, 1, "#define F(a) a | #define F(b) b")
	fails(t, "", api.ErrRedef, 0, 1, "#define F(a) 1 | #define F(a, ...) 1")
	fails(t, "", api.ErrRedef, 0, 4, "#define N 3 | #undef N | #define N 4 | #define N 4 | #define N 3")
	fails(t, "", api.ErrRedef, 0, 2, "#define N 3 | #if 1 | #define N 4 | #endif")
	fails(t, "", api.ErrRedef, 1, 1, "#define N 3 | #include \"b\"", "N | #define N 4")
	fails(t, "", api.ErrRedef, 0, 1, "#include \"b\" | #define N 3", "N | #define N 4")
	for text, e := range map[string]api.Errno{"": api.ErrName, "1": api.ErrName, "defined": api.ErrName, "__VA_ARGS__ 1": api.ErrName, "F(": api.ErrParams, "F(a,)": api.ErrParams, "F(a a) a": api.ErrParams, "X+": api.ErrBlank, "X ## a": api.ErrPaste, "X a ##": api.ErrPaste, "F(a) #b": api.ErrHash, "X __VA_ARGS__": api.ErrVa} {
		fails(t, "", e, 0, 2, "x | y | #define "+text)
		// What is wrong with a definition is told ahead of what it is beside another one.
		fails(t, "", e, 0, 2, "#define X | #define F(a) | #define "+text)
	}
}

// What a name comes to behind two definitions of it that are the same was written in the latter.
func TestJ3DefineAgain(t *testing.T) {
	got, f := seen(t, "", []string{"#define N 3\n#define N 3\nN", ""})
	if len(got) != 1 || got[0].From != 22 || f != (api.Fault{}) {
		t.Errorf("%+v, %v", got, f)
	}
	if got, _ := seen(t, "A", []string{"A\n#define A 1\nA"}); len(got) != 2 || got[0].File != -1 || got[1].File != 0 || got[1].From != 12 {
		t.Errorf("of a name at first: %+v", got)
	}
}

func TestJ3Undef(t *testing.T) {
	for _, text := range []string{"", "A B", "A A", "1", "+", "\"A\"", "'A'", "defined", "__VA_ARGS__", "A()", "(A)", "A 1", "@", "defined A"} {
		fails(t, "A", api.ErrName, 0, 1, "x | #undef "+text)
		fails(t, "", api.ErrName, 1, 0, "x | #include \"b\"", "#undef "+text)
	}
	for _, text := range []string{"A", "int", "undef", "Defined", "VA_ARGS", "A // x", "/* x */ A"} {
		holds(t, "", "x y", "x | #undef "+text+" | y")
	}
	holds(t, "A B", "A 1", "#undef A | A B")
	holds(t, "", "F ( 1 )", "#define F(a) a | #undef F | F(1)")
}

// Null, Pragma and LineNo do nothing; Error and Unknown are wrong, whatever stands behind.
func TestJ3Others(t *testing.T) {
	for _, s := range []string{"#", "# // x", "#pragma", "#pragma once", "#pragma (", "#line", "#line 7 \"b\"", "#line x", "# pragma 08 1/0"} {
		holds(t, "", "x y", "x | "+s+" | y")
	}
	for _, s := range []string{"#error", "#error x", "# error 1 + F("} {
		fails(t, "", api.ErrError, 0, 1, "x | "+s+" | y")
	}
	for _, s := range []string{"#foo", "#12", "#define1 X", "#\"b\"", "# #", "#Define X", "#+", "#warning", "#elseif", "#import \"b\""} {
		fails(t, "", api.ErrDirective, 0, 2, "x | | "+s+" | y")
	}
	// Macros' names are no directives', and directives' words no others.
	holds(t, "", "## if 3 1", "#define define 3 | #define if 1 | ## | #undef if | if | #define if 1 | define if")
	holds(t, "", "# x", "#define H # | H x")
}
