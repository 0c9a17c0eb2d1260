package world_test

import (
	"strings"
	"testing"

	"emend/api"
	"emend/direct"
	"emend/world"
)

func TestK1Examples(t *testing.T) {
	text := "#if A && defined(B) || X > 1\n#define X 2\n#ifdef C"
	asked(t, "A B C", text)
	known(t, "X", text)
	asked(t, "")
	known(t, "")
	asked(t, "", "", "", "")
	known(t, "", "", "")
	asked(t, "", "\n", " ", "//", "\\\n")
}

// Known: a Define's and an Undef's first token, if that is a word.
func TestK1Known(t *testing.T) {
	for _, d := range []string{"#define", "# undef", " /* a */ #\\\ndef\\\nine", "#undef /*\n*/"} {
		known(t, "", d)
		known(t, "", d+"\nA")
		known(t, "", d+" // A")
		known(t, "A", d+" A")
		known(t, "A", d+" A\n")
		known(t, "A", d+" A B C")
		known(t, "A", d+" A(B, C) B + C")
		known(t, "A", d+" A A")
		known(t, "A", d+" A\n"+d+" A")
		known(t, "A", d+" A", "x", d+" A 2")
		known(t, "A B", d+" B\n"+d+" A", d+" B")
		known(t, "AB", d+" A\\\nB\\\n C")
		known(t, "defined", d+" defined")
		known(t, "__VA_ARGS__", d+" __VA_ARGS__")
		known(t, "define", d+" define")
		for _, first := range []string{"1", "1A", ".5", "\"A\"", "'A'", "(", "#", "##", "+", "...", "@", "\"", "$", "\\", "\x00", "é", "#define", "()", "1.e+A"} {
			known(t, "", d+" "+first)
			known(t, "", d+" "+first+" A")
		}
		known(t, "L", d+" L\"A\" B")
		known(t, "A", d+" A\"A\"", d+" A'A'")
	}
	known(t, "A", "#define A\n#undef A")
	known(t, "A B C D", "#ifdef X\n#define D\n#else\n#undef C", "#if 0\n#define B\n#define A")
	known(t, "A A1 AA A_ B Z _ __ a z", "#undef z\n#undef a\n#undef __\n#undef _\n#undef Z\n#undef B\n#undef A_\n#undef AA\n#undef A1\n#undef A")
}

// Of lines of the other kinds nothing is known, and nothing is asked.
func TestK1Kinds(t *testing.T) {
	for _, line := range []string{"A B", "#", "# foo A", "#A", "#1 A", "##define A", "x #define A", "#if A", "#Define A", "#defined A", "#undefine A", "# \"define\" A", "define A", "//\\\n#define A", "/*\n#define A\n*/", "\"\\\n#define A\""} {
		known(t, "", line)
		known(t, "B", line+"\n#define B")
	}
	for _, line := range []string{"A B", "#", "# foo A", "#A", "#1 A", "##if A", "x #if A", "#If A", "#ifdefined A", "#iff A", "# 'if' A", "if A", "ifdef A", "//\\\n#if A", "/*\n#if A\n*/", "\"\\\n#if A\"", "#elifdef A"} {
		asked(t, "", line)
		asked(t, "B", line+"\n#if B")
	}
	for kind := api.If; kind <= api.LineNo; kind++ {
		word := direct.Word(kind)
		wantAsked, wantKnown := "", ""
		switch kind {
		case 2, 3, 4, 5:
			wantAsked = "A B"
		case 8, 9:
			wantKnown = "A"
		}
		for _, text := range []string{"#" + word + " A B", "x\n # " + word + " A\t(B)\nC", "#" + word[:1] + "\\\n" + word[1:] + " A /* C\n */ B // D"} {
			asked(t, wantAsked, text)
			known(t, wantKnown, text)
		}
	}
}

// Names: all words of what conditions have.
func TestK1Names(t *testing.T) {
	for _, c := range []string{"#if", "#elif", "#ifdef", "#ifndef", " # /* x */ if", "#\\\nel\\\nif"} {
		asked(t, "", c)
		asked(t, "", c+"\nA")
		asked(t, "", c+" 1 + 0x1F - 2U + 1A + .5e+A")
		asked(t, "A", c+" A")
		asked(t, "A", c+" A A\n"+c+"(A)")
		asked(t, "A", c+" A", c+" A", "A B")
		asked(t, "A B", c+" B A")
		asked(t, "A B", c+" B", c+" A", c+" B")
		asked(t, "A B C F", c+" F(A, B) && !defined C")
		asked(t, "A B", c+" defined(A) + defined B + defined")
		asked(t, "A B", c+" defined __VA_ARGS__ + A + __VA_ARGS__(B)")
		asked(t, "Defined _VA_ARGS__ __VA_ARGS define defined_", c+" define + defined_ + Defined + __VA_ARGS + _VA_ARGS__")
		asked(t, "else if", c+" if else")
		asked(t, "A", c+" \"B\" 'C' A /* D */ // E")
		asked(t, "L", c+" L'B'")
		asked(t, "A B", c+" 'A B") // a quote that has no end is none
		asked(t, "AB C", c+" A\\\nB\\\n \\\n C\nD")
		asked(t, "A C", c+" A /* B\n B */ C\nD")
		asked(t, "A B", c+" A@B$")
	}
	asked(t, "A B C D", "#if A\n#elif B\n#ifdef C\n#ifndef D")
	asked(t, "A B", "#endif\n#if A\n#else\n#elif B") // conditionals need have no end, and no beginning
}

// What is known is not asked for, wherever it is defined.
func TestK1ButKnown(t *testing.T) {
	asked(t, "B", "#define A\n#if A + B")
	asked(t, "B", "#if A + B\n#define A")
	asked(t, "B", "#if A + B\n#undef A")
	asked(t, "B", "#if A + B", "#define A 1")
	asked(t, "B", "#define A(B) B", "#ifdef A\n#ifndef B")
	asked(t, "B", "#ifdef A\n#elif B\n#undef A\n#endif")
	asked(t, "B", "#if 0\n#define A\n#endif\n#ifdef A\n#endif\n#ifdef B")
	asked(t, "B", "#if A\n#else\n#if 0\n#elif B\n#undef A")
	asked(t, "", "#ifndef GUARD\n#define GUARD\n#endif")
	asked(t, "A B", "#if A + B\n#define 1 A\n#define \"A\"\n#undef\n#foo A\ndefine A")
	asked(t, "A B", "#if A + B\n#define C A\n#define a\n#define AB\n#undef A_\n// #define A")
	asked(t, "", "#if defined + __VA_ARGS__\n#define defined\n#undef __VA_ARGS__")
	known(t, "__VA_ARGS__ defined", "#if defined + __VA_ARGS__\n#define defined\n#undef __VA_ARGS__")
}

func TestK1ErrVars(t *testing.T) {
	const eight = "A B C D E F G H"
	asked(t, eight, "#if "+eight)
	asked(t, eight, "#if H G F E\n#elif D C B A", "#ifdef A\n#ifndef H\n#elif "+eight)
	tooMany(t, "#if "+eight+" I")
	tooMany(t, "#if "+eight+"\n#elif a")
	tooMany(t, "#if "+eight, "#ifdef I")
	tooMany(t, "#if A B C", "#if D E F", "#if G H I")
	tooMany(t, "#if "+numbered(20, "N@ "))
	asked(t, eight, "#if "+eight+" defined __VA_ARGS__")
	asked(t, eight, "#if "+eight+" X", "#undef X")
	asked(t, eight, "#define X\n#if X "+eight)
	asked(t, "A B D E F G H I", "#if "+eight+" I\n#define C")
	tooMany(t, "#if "+eight+" I J\n#define C")
	tooMany(t, "#if "+eight+" I\n#define X A B C")
	asked(t, "", "#if "+numbered(20, "N@ ")+"\n"+numbered(20, "#define N@\n"))
	known(t, "A B C D E F G H I J", numbered(1, "#undef J\n#undef I\n#undef H\n#undef G\n#undef F\n#undef E\n#undef D\n#undef C\n#undef B\n#undef A"))
}

// Names are held against one another by their bytes, and stand in that order.
func TestK1Order(t *testing.T) {
	asked(t, "A A0 A1 AA AB A_ Aa B", "#if B Aa A_ AB AA A1 A0 A")
	asked(t, "ABC ABc Abc _ __ _a a a_", "#if a_ a _a __ _ Abc ABc ABC")
	asked(t, "A10 A2 A9 a10 a2", "#if a2 a10 A9 A2 A10")
	asked(t, "ab b", "#if A ab aB b\n#undef A\n#undef aB")
	long := strings.Repeat("a", 5000)
	asked(t, long+" "+long+"a "+long+"b", "#if "+long+"b "+long+" "+long+"a")
	for range 30 {
		if got, e := world.Names(project("#ifdef F7\n#if F6 F5 F4\n#elif F3 F2", "#if F1 F0")); strings.Join(got, "") != "F0F1F2F3F4F5F6F7" || e != api.OK {
			t.Fatalf("%q, %d", got, e)
		}
	}
}
