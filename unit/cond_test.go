package unit_test

import (
	"testing"

	"emend/api"
)

func TestJ4Ifdef(t *testing.T) {
	for _, word := range []string{"ifdef", "ifndef"} {
		for _, toks := range []string{"", "A B", "A A", "1", "+", "\"A\"", "'A'", "(A)", "defined A", "A 1", "! A", "@"} {
			fails(t, "A", api.ErrName, 0, 1, "x | #"+word+" "+toks+" | y | #endif")
			fails(t, "", api.ErrName, 0, 1, "x | #"+word+" "+toks+" | #else | y | #endif")
		}
	}
	const asks = "#ifdef N | yes | #else | no | #endif | #ifndef N | lacks | #else | has | #endif"
	holds(t, "", "no lacks", asks)
	holds(t, "N", "yes has", asks)
	holds(t, "A", "no lacks", asks)
	for _, define := range []string{"#define N", "#define N 0", "#define N() 1", "#define N N"} {
		holds(t, "", "yes has", define+" | "+asks)
		holds(t, "", "no lacks", define+" | #undef N | "+asks)
		holds(t, "", "yes has", define+" | #undef N | "+define+" | "+asks)
	}
	// A name that no macro can have may be asked for.
	for _, name := range []string{"defined", "__VA_ARGS__", "ifdef"} {
		holds(t, "A", "no lacks", "#ifdef "+name+" | yes | #else | no | #endif | #ifndef "+name+" | lacks | #else | has | #endif")
	}
}

func TestJ4If(t *testing.T) {
	for s, want := range map[string]bool{
		"0": false, "1": true, "-1": true, "A": true, "A == 1": true, "B": false, "B == 0": true, "defined A": true, "defined(A)": true, "defined B": false, "!defined(B)": true, "N == 3": true, "defined N && N > 2": true, "F(N) == 6": true, "F(2) - 4": false, "E + 7": true, "E 0": false, "defined E": true, "F + 1": true, "defined F": true, "U": false, "defined U": false, "D": true, "P(A, B)": true, "P(N, )": true, "P(D, U) == 5": true, "P(defi, ned)": false, "M": true, "1 // 0": true, "0 ? 1/0 : A": true, "'A' == 65": true, "1 << 32": true, "N - 3": false, "S": false,
	} {
		got := "no"
		if want {
			got = "yes"
		}
		const macros = "#define N 3 | #define F(a) a+a | #define E | #define U | #undef U | #define D (N) | #define P(a, b) a##b | #define AB 4 | #define DU 5 | #define M P(A, B) | #define S S | "
		holds(t, "A", got, macros+"#if "+s+" | yes | #else | no | #endif")
		holds(t, "A", got, macros+"#if 0 | #elif "+s+" | yes | #else | no | #endif")
	}
	// A name is asked for before it is replaced; what comes of a macro is asked for no more.
	holds(t, "", "yes", "#define A B | #if defined A && !defined B | yes | #endif")
	fails(t, "", api.ErrExpr, 0, 1, "#define D defined X | #if D | yes | #endif")
	fails(t, "", api.ErrExpr, 0, 1, "#define D defined | #if D X | yes | #endif")
	holds(t, "", "yes", "#define D defined | #if D | no | #else | yes | #endif")
}

// Of what is wrong with a condition the first one of three is told, at the branch's line.
func TestJ4Errors(t *testing.T) {
	for s, e := range map[string]api.Errno{
		"": api.ErrExpr, "defined": api.ErrExpr, "defined 1": api.ErrExpr, "defined(A": api.ErrExpr, "1 +": api.ErrExpr, "\"s\"": api.ErrExpr, "E": api.ErrExpr, "(1": api.ErrExpr, "A = 1": api.ErrExpr, "1 2": api.ErrExpr,
		"F(": api.ErrArgs, "F(1,2)": api.ErrCount, "P(+,1)": api.ErrGlue,
		"08": api.ErrNumber, "1.5": api.ErrNumber, "'ab'": api.ErrNumber, "1/0": api.ErrZero, "1 % N": api.ErrZero, "1 << 64": api.ErrShift, "1 >> -1": api.ErrShift, "N ? 1 : 1/N": api.ErrZero,
		// Of these, more than one is wrong.
		"defined + F(": api.ErrExpr, "F( + defined": api.ErrExpr, "08 defined": api.ErrExpr, "F(1,2) + defined 1": api.ErrExpr, "1/0 + F(": api.ErrArgs, "08 + F(1,2)": api.ErrCount, "F(1,2) 08": api.ErrCount, "+ P(+,1) +": api.ErrGlue, "defined(A) F(": api.ErrArgs, "1/0 + 08": api.ErrNumber, "1/0 +": api.ErrExpr,
	} {
		const macros = "#define F(a) a | #define N 0 | #define E | #define P(a, b) a##b | "
		fails(t, "A", e, 0, 4, macros+"#if "+s+" | x | #else | y | #endif")
		fails(t, "A", e, 0, 5, macros+"x | #if "+s+" | #endif | #foo")
		fails(t, "A", e, 0, 6, macros+"#if 0 | x | #elif "+s+" | x | #else | y | #endif")
		fails(t, "A", e, 0, 7, macros+"#if 0 | #elif 0 | #elif E 0 | #elif "+s+" | #endif")
		fails(t, "A", e, 0, 5, macros+"#if 1 | #if "+s+" | #endif | #endif")
		fails(t, "A", e, 1, 2, macros+"#include \"b\"", "x | #if 1 | #if "+s+" | #endif | #endif")
	}
	// What is wrong with two conditions: that of the first one that is asked.
	fails(t, "", api.ErrZero, 0, 0, "#if 1/0 | #elif 08 | #endif")
	fails(t, "", api.ErrNumber, 0, 1, "#if 0 | #elif 08 | #elif 1/0 | #endif")
	fails(t, "", api.ErrName, 0, 1, "#if 1 | #ifdef | #endif | #elif 08 | #endif")
}
