package expand_test

import (
	"slices"
	"testing"

	"emend/api"
	"emend/expand"
	"emend/pptok"
)

func TestH3Count(t *testing.T) {
	defs := []string{"N() n", "F(a) [a]", "G(a, b) [a;b]", "V(...) [__VA_ARGS__]", "W(a, ...) [a;__VA_ARGS__]", "Z(a, b, ...) [a;b;__VA_ARGS__]", "E", "C ,"}
	fail(t, []fault{
		{"N(1)", api.ErrCount, defs}, {"N(,)", api.ErrCount, defs}, {"N(())", api.ErrCount, defs}, {"N(E)", api.ErrCount, defs},
		{"F(1,2)", api.ErrCount, defs}, {"F(,)", api.ErrCount, defs}, {"F(1,)", api.ErrCount, defs},
		{"G()", api.ErrCount, defs}, {"G(1)", api.ErrCount, defs}, {"G((1,2))", api.ErrCount, defs}, {"G(1,2,3)", api.ErrCount, defs}, {"G(,,)", api.ErrCount, defs}, {"G(1 C 2)", api.ErrCount, defs},
		{"Z()", api.ErrCount, defs}, {"Z(1)", api.ErrCount, defs}, {"Z((,))", api.ErrCount, defs},
	})
	hold(t, []example{
		{"N()", "n", defs}, {"N( )", "n", defs}, {"N(\n)", "n", defs}, {"N(/**/)", "n", defs},
		{"F()", "[|]", defs}, {"F( )", "[|]", defs}, {"F(1)", "[|1|]", defs}, {"F((1,2))", "[|(|1|,|2|)|]", defs}, {"F(E)", "[|]", defs}, {"F(1 C 2)", "[|1 , 2|]", defs},
		{"G(,)", "[|;|]", defs}, {"G(1,)", "[|1|;|]", defs}, {"G(,2)", "[|;|2|]", defs}, {"G((1,2),(,))", "[|(|1|,|2|)|;|(|,|)|]", defs},
		// VA takes what there is more than Params, with the signs between.
		{"V()", "[|]", defs}, {"V( )", "[|]", defs}, {"V(1)", "[|1|]", defs}, {"V(,)", "[|,|]", defs}, {"V(1, 2 , 3)", "[|1|, 2 , 3|]", defs}, {"V((1,2),3)", "[|(|1|,|2|)|,|3|]", defs}, {"V(,,)", "[|,|,|]", defs}, {"V(E)", "[|]", defs},
		{"W()", "[|;|]", defs}, {"W(1)", "[|1|;|]", defs}, {"W(1,)", "[|1|;|]", defs}, {"W(,)", "[|;|]", defs}, {"W(1,2)", "[|1|;|2|]", defs}, {"W(1,2,3)", "[|1|;|2|,|3|]", defs}, {"W(1,,)", "[|1|;|,|]", defs}, {"W(,,(1,2),)", "[|;|,|(|1|,|2|)|,|]", defs},
		{"Z(1,2)", "[|1|;|2|;|]", defs}, {"Z(,)", "[|;|;|]", defs}, {"Z(1,2,)", "[|1|;|2|;|]", defs}, {"Z(1,2,3,4)", "[|1|;|2|;|3|,|4|]", defs}, {"Z(,,,)", "[|;|;|,|]", defs},
	})
}

// A parameter's argument comes expanded, but beside the signs.
func TestH3Parameters(t *testing.T) {
	const none = "ErrGlue"
	args := []string{"X", "", "E", "P(X)", "L"}
	for _, x := range []struct {
		def  string
		want []string
	}{
		{"F(a) a", []string{"1", "", "", "<|1|>", "1 1"}},
		{"F(a) [ a ]", []string{"[ 1 ]", "[ ]", "[ ]", "[ <|1|> ]", "[ 1 1 ]"}},
		{"F(a) a+a", []string{"1|+|1", "+", "+", "<|1|>|+|<|1|>", "1 1|+|1 1"}},
		{"F(a) #a", []string{`"X"`, `""`, `"E"`, `"P(X)"`, `"L"`}},
		{"F(a) + # a", []string{`+ "X"`, `+ ""`, `+ "E"`, `+ "P(X)"`, `+ "L"`}},
		{"F(a) #a a", []string{`"X" 1`, `""`, `"E"`, `"P(X)" <|1|>`, `"L" 1 1`}},
		{"F(a) a #a", []string{`1 "X"`, `""`, `"E"`, `<|1|> "P(X)"`, `1 1 "L"`}},
		{"F(a) x##a", []string{"xX", "x", "xE", "xP|(|1|)", "xL"}},
		{"F(a) x ## a", []string{"xX", "x", "xE", "xP|(|1|)", "xL"}},
		{"F(a) x##a a", []string{"xX 1", "x", "xE", "xP|(|1|) <|1|>", "xL 1 1"}},
		{"F(a) x##a+", []string{"xX|+", "x|+", "xE|+", "xP|(|1|)|+", "xL|+"}},
		{"F(a) a##x", []string{"Xx", "x", "Ex", none, "Lx"}},
		{"F(a) a ##x a", []string{"Xx 1", "x", "Ex", none, "Lx 1 1"}},
		{"F(a) a##a", []string{"7", "", "EE", none, "LL"}},
		{"F(a) +a##a a", []string{"+|7 1", "+", "+|EE", none, "+|LL 1 1"}},
		{"F(a) x##a##x", []string{"xXx", "xx", "xEx", none, "xLx"}},
		{"F(a) a##X", []string{"7", "1", "EX", none, "LX"}},
	} {
		defs := []string{x.def, "X 1", "E", "XX 7", "P(x) <x>", "L X X"}
		for i, arg := range args {
			text := "F(" + arg + ")"
			if x.want[i] == none {
				fail(t, []fault{{text, api.ErrGlue, defs}})
			} else {
				hold(t, []example{{text, x.want[i], defs}})
			}
		}
	}
}

// What is a parameter, and what only looks like one.
func TestH3NoParameters(t *testing.T) {
	hold(t, []example{
		{"F(1)", "'a'|;|\"a\"|;|1|;|b|;|aa|;|1a", []string{"F(a) 'a';\"a\";a;b;aa;1a"}}, {"F(1)", "1", []string{"F(F) F"}}, {"F(F)", "F", []string{"F(F) F"}}, {"F(F(2))", "2", []string{"F(F) F"}}, {"F(1)", "1", []string{"F(defined) defined"}}, {"F(1)", "1 __VA_ARGS__x", []string{"F(a) a __VA_ARGS__x"}},
		// Of a macro that is not Func `#` is a token like any other one, `##` is not.
		{"X", "#|a|;|#|1", []string{"X #a;#1"}}, {"X", "# a", []string{"X # a"}}, {"X", "a #", []string{"X a #"}}, {"X", "##", []string{"X # ## #"}}, {"X", "ab 12", []string{"X a##b 1 ## 2"}}, {"N()", "ab", []string{"N() a##b"}},
	})
	// A token of another kind is no parameter, whatever its text.
	for _, kind := range []int{0, api.Number, api.Quote, api.Str, api.Punct, api.Other, api.Newline, 8} {
		ms := defined(t, "F(a) [a a]")
		ms[0].Body[1].Kind = kind
		if got, e := expand.Expand(ms, toks(0, "F(1)")); shown(got) != "[|a 1|]" && kind != api.Newline || e != api.OK || got[1].Kind != kind {
			t.Errorf("of kind %d: %q, %d", kind, shown(got), e)
		}
	}
}

func TestH3VariadicParameters(t *testing.T) {
	defs := []string{"S(...) #__VA_ARGS__", "T(a, ...) #a #__VA_ARGS__ a;__VA_ARGS__", "L(...) x##__VA_ARGS__", "R(...) __VA_ARGS__##x", "X 1"}
	hold(t, []example{
		{"S()", `""`, defs}, {"S(X)", `"X"`, defs}, {"S( X , 2,)", `"X , 2,"`, defs}, {"S(,)", `","`, defs}, {"S((a,b),c)", `"(a,b),c"`, defs},
		{"T(X)", `"X" "" 1|;`, defs}, {"T(X,)", `"X" "" 1|;`, defs}, {"T(X, X,X)", `"X" "X,X" 1|;|1|,|1`, defs}, {"T(,X)", `"" "X"|;|1`, defs},
		{"L()", "x", defs}, {"L(X,X)", "xX|,|1", defs}, {"L(1,)", "x1|,", defs}, {"R()", "x", defs}, {"R(X,X)", "1|,|Xx", defs},
	})
	fail(t, []fault{{"L(,1)", api.ErrGlue, defs}, {"R(1,)", api.ErrGlue, defs}})
}

func TestH3Pastes(t *testing.T) {
	defs := []string{"C(a, b) a##b", "D(a, b, c) a##b##c", "I(a) [a]", "J(a) a##2", "K(a, b) [ a ## b ]+a##b+", "S(a, b) #a##b", "T(a, b) a###b", "X a # ## # b", "Y # ## #", "Z Y 1", "E 1e ## - ## 2"}
	hold(t, []example{
		{"C(1,2)", "12", defs}, {"C(+,+)", "++", defs}, {"C(<,<=)", "<<=", defs}, {"C(a,1)", "a1", defs}, {"C(.,5)", ".5", defs}, {"C(1 2,3 4)", "1 23 4", defs}, {"C(a b,1 2)", "a b1 2", defs},
		{"D(1,2,3)", "123", defs}, {"D(,2,3)", "23", defs}, {"D(1,,3)", "13", defs}, {"D(1,2,)", "12", defs}, {"D(,,3)", "3", defs}, {"D(,2,)", "2", defs}, {"D(1,,)", "1", defs}, {"D(,,)", "", defs}, {"D(<,<,=)", "<<=", defs}, {"D(1 2,3,4 5)", "1 234 5", defs},
		// From the left: `-` and `2` are no token of two.
		{"D(1e,-,2)", "1e-2", defs}, {"E", "1e-2", defs},
		{"C(,)", "", defs}, {"C( , )x", "x", defs}, {"K(,)", "[ ]|+|+", defs}, {"K( , )x", "[ ]|+|+|x", defs}, {"K(,1)", "[ 1 ]|+|1|+", defs}, {"K(1,)", "[ 1 ]|+|1|+", defs},
		// A string is a token like any other one.
		{"S(1,)", `"1"`, defs}, {"S(,)", `""`, defs}, {"T(,1)", `"1"`, defs}, {"T(,)", `""`, defs},
		// A `##` of an argument, or that two made, is none of the body's.
		{"I(x ## y)", "[|x ## y|]", defs}, {"J(x ## 1)", "x ## 12", defs}, {"X", "a ## b", defs}, {"Z", "## 1", defs}, {"I(C(#,#))", "[|##|]", defs},
	})
	fail(t, []fault{
		{"C(+,a)", api.ErrGlue, defs}, {"C(/,/)", api.ErrGlue, defs}, {"C(/,*)", api.ErrGlue, defs}, {"C((1),2)", api.ErrGlue, defs}, {"C(1,(2))", api.ErrGlue, defs}, {"C(a,'x')", api.ErrGlue, defs}, {"C(\"a\",\"b\")", api.ErrGlue, defs}, {"C(@,1)", api.ErrGlue, defs}, {"C(1,-)", api.ErrGlue, defs},
		{"D(1,-,2)", api.ErrGlue, defs}, {"D(1,2,+)", api.ErrGlue, defs}, {"D(+,,1)", api.ErrGlue, defs}, {"S(1,2)", api.ErrGlue, defs}, {"T(1,)", api.ErrGlue, defs}, {"J(##)", api.ErrGlue, defs},
		{"X", api.ErrGlue, []string{"X 1 ## - ## 2"}}, {"X", api.ErrGlue, []string{"X ( ## )"}}, {"X", api.ErrGlue, []string{"X - ## > ## ="}},
	})
}

// A `##` that another one took as the token behind it is that token.
func TestH3PastesInARow(t *testing.T) {
	defs := []string{"A(a) a ## ## x", "B(a) + a ## ##x", "C(a) +a ## ## x", "D(a, b) a ## ## ## b", "E(a, b) a ## ## b"}
	hold(t, []example{
		{"A()", "## x", defs}, {"B()", "+ ##|x", defs}, {"C()", "+|## x", defs}, {"D(,)", "##", defs}, {"E(,1)", "## 1", defs}, {"E(,)", "##", defs}, {"E(, 1 2)", "## 1 2", defs}, {"+ A()", "+ ## x", defs},
	})
	fail(t, []fault{
		{"A(1)", api.ErrGlue, defs}, {"B(1)", api.ErrGlue, defs}, {"D(1,)", api.ErrGlue, defs}, {"D(,1)", api.ErrGlue, defs}, {"E(1,2)", api.ErrGlue, defs}, {"X", api.ErrGlue, []string{"X a ## ## b"}}, {"X", api.ErrGlue, []string{"X # ## ## #"}}, {"X", api.ErrGlue, []string{"X a ## ## ## b"}},
	})
}

// Where each token was written: macros stand in files from 1 on, the text in file 0.
func TestH3Places(t *testing.T) {
	ident := func(text string, file, from int, blank bool) api.Tok {
		return api.Tok{Kind: api.Ident, Text: text, File: file, From: from, To: from + len(text), Blank: blank}
	}
	sign := func(text string, file, from int, blank bool) api.Tok {
		return api.Tok{Kind: api.Punct, Text: text, File: file, From: from, To: from + len(text), Blank: blank}
	}
	for _, x := range []struct {
		def, text string
		want      []api.Tok
	}{
		{"X a +b", "+ X", []api.Tok{sign("+", 0, 0, false), ident("a", 1, 2, true), sign("+", 1, 4, true), ident("b", 1, 5, false)}},
		{"F(a) + # a", "F( x  y )", []api.Tok{sign("+", 1, 5, false), {Kind: api.Str, Text: `"x y"`, File: 1, From: 7, To: 8, Blank: true}}},
		{"F(a) +#a", "F( x)", []api.Tok{sign("+", 1, 5, false), {Kind: api.Str, Text: `"x"`, File: 1, From: 6, To: 7}}},
		{"F(a) [a]", "F( x y)", []api.Tok{sign("[", 1, 5, false), ident("x", 0, 3, false), ident("y", 0, 5, true), sign("]", 1, 7, false)}},
		{"F(a) [ a]", "F(x+y)", []api.Tok{sign("[", 1, 5, false), ident("x", 0, 2, true), sign("+", 0, 3, false), ident("y", 0, 4, false), sign("]", 1, 8, false)}},
		{"F(a, b) + a ## b", "F(xy,z)", []api.Tok{sign("+", 1, 8, false), {Kind: api.Ident, Text: "xyz", File: 0, From: 2, To: 4, Blank: true}}},
		{"F(a, b) +a## b", "F( xy, z)", []api.Tok{sign("+", 1, 8, false), {Kind: api.Ident, Text: "xyz", File: 0, From: 3, To: 5}}},
		{"F(a, b) + a ##b", "F(,z)", []api.Tok{sign("+", 1, 8, false), ident("z", 0, 3, true)}},
		{"F(a, b) +a ## b", "F(,z)", []api.Tok{sign("+", 1, 8, false), ident("z", 0, 3, false)}},
		{"F(a, b) + a ##b", "F(z,)", []api.Tok{sign("+", 1, 8, false), ident("z", 0, 2, true)}},
		{"F(a, b) +a ## b", "F( z , )", []api.Tok{sign("+", 1, 8, false), ident("z", 0, 3, false)}},
		{"F(a) + xy##a", "F(z w)", []api.Tok{sign("+", 1, 5, false), {Kind: api.Ident, Text: "xyz", File: 1, From: 7, To: 9, Blank: true}, ident("w", 0, 4, true)}},
		{"F(a) a## x", "+F(w zz)", []api.Tok{sign("+", 0, 0, false), ident("w", 0, 3, false), {Kind: api.Ident, Text: "zzx", File: 0, From: 5, To: 7, Blank: true}}},
		{"F(...) [__VA_ARGS__]", "F(x , y)", []api.Tok{sign("[", 1, 7, false), ident("x", 0, 2, false), sign(",", 0, 4, true), ident("y", 0, 6, true), sign("]", 1, 19, false)}},
	} {
		got, e := expand.Expand(defined(t, x.def), pptok.Tokens(0, x.text))
		if !slices.Equal(got, x.want) || e != api.OK {
			t.Errorf("%q of %q: %+v, %d", x.def, x.text, got, e)
		}
	}
}

func TestH3Blanks(t *testing.T) {
	defs := []string{"X 1", "Y -x", "F(a) [a]", "G(a) a", "E", "N()", "EE E E", "S(a) #a a", "T(a) a #a", "U(a) a;x##a", "P(a) +a+ a ", "Q(a, b) a##b", "O E-"}
	hold(t, []example{
		{"X", "1", defs}, {" X", " 1", defs}, {"+X", "+|1", defs}, {"+ X", "+ 1", defs}, {"+ Y", "+ -|x", defs}, {"+F (1)", "+|[|1|]", defs}, {"+ F (1)", "+ [|1|]", defs}, {"+ G(1)", "+ 1", defs}, {"+G( 1)", "+|1", defs}, {"+ X+X", "+ 1|+|1", defs}, {" Q(1,2)", " 12", defs}, {"Q( 1,2)", "12", defs},
		// What comes to nothing leaves its Blank to the next token.
		{"E+", "+", defs}, {" E+", " +", defs}, {"+E+", "+|+", defs}, {"+ E+", "+ +", defs}, {"+E +", "+ +", defs}, {"+ E", "+", defs}, {"+ E E+", "+ +", defs}, {"+E E+", "+ +", defs}, {"+ EE+", "+ +", defs}, {"+ E(1)", "+ (|1|)", defs}, {"+ N()+", "+ +", defs}, {"+ N ( )+", "+ +", defs}, {"+N ( )+", "+|+", defs}, {"+ E X+", "+ 1|+", defs}, {"+ EX", "+ EX", defs}, {"+ E\n", "+", defs}, {"+ Q(,)+", "+ +", defs}, {"+Q( , )+", "+|+", defs}, {"+ G()+", "+ +", defs}, {"+ G(E)+", "+ +", defs}, {"+ O+", "+ -|+", defs}, {"+O +", "+|- +", defs}, {"+ E E", "+", defs},
		// The last one of an argument has none behind it.
		{"F(+ E+)", "[|+ +|]", defs}, {"F( E+)", "[|+|]", defs}, {"F(+ E)+", "[|+|]|+", defs}, {"F( E)", "[|]", defs}, {"P()+", "+|+|+", defs}, {"P( 1 )", "+|1|+ 1", defs}, {"P( E )", "+|+", defs},
		// The argument as it is keeps its own.
		{"S(+ E-)", `"+ E-" + -`, defs}, {"T(+ E-)", `+ - "+ E-"`, defs}, {"U(1 E-)", "1 -|;|x1 -", defs},
	})
}

func TestH3ErrorsWithinArguments(t *testing.T) {
	defs := []string{"F(a) a", "N() n", "C(a, b) a##b", "G(a, b) b a", "S(a, b) #a b", "L(a, b) x##a b", "R(a, b) a##x b", "K(a, b) b", "V(...) __VA_ARGS__", "W(a, ...) __VA_ARGS__ a", "M(a) a;+##-", "Q F(", "T(a) #a a"}
	fail(t, []fault{
		{"F(N(1))", api.ErrCount, defs}, {"F(C(+,a))", api.ErrGlue, defs}, {"F(1 Q)", api.ErrArgs, defs}, {"F(F(F(N(1))))", api.ErrCount, defs}, {"V(1,N(1))", api.ErrCount, defs}, {"T(N(1))", api.ErrCount, defs},
		// Its own count is first, its own signs are last.
		{"F(C(+,a),2)", api.ErrCount, defs}, {"G(C(+,a))", api.ErrCount, defs}, {"M(N(1))", api.ErrCount, defs}, {"M(Q)", api.ErrArgs, defs}, {"M(1)", api.ErrGlue, defs},
		// In the order of the parameters, not in that of the body.
		{"G(C(+,a),N(1))", api.ErrGlue, defs}, {"G(N(1),C(+,a))", api.ErrCount, defs}, {"G(Q,N(1))", api.ErrArgs, defs}, {"W(N(1),Q)", api.ErrCount, defs}, {"W(Q,N(1))", api.ErrArgs, defs}, {"W(1,C(+,a),N(1))", api.ErrGlue, defs},
		// What is not expanded is not wrong.
		{"S(C(+,a),N(1))", api.ErrCount, defs}, {"L(C(+,a),N(1))", api.ErrCount, defs}, {"K(C(+,a),N(1))", api.ErrCount, defs},
		// From the first token on.
		{"N(1) C(+,a)", api.ErrCount, defs}, {"C(+,a) N(1)", api.ErrGlue, defs}, {"N(1) F(", api.ErrCount, defs}, {"F(N(1)", api.ErrArgs, defs}, {"F(1) N(1)", api.ErrCount, defs},
	})
	hold(t, []example{{"S(C(+,a),1)", `"C(+,a)" 1`, defs}, {"K(C(+,a),1)", "1", defs}, {"K(Q,1)", "1", defs}, {"S(N(1),2)", `"N(1)" 2`, defs}, {"K(N(1),N())", "n", defs}})
	// What an argument brings as it is, is looked at with what came.
	fail(t, []fault{{"L(1 N(1),2)", api.ErrCount, defs}, {"R(Q,1)", api.ErrArgs, append(slices.Clone(defs), "Qx Q")}})
}
