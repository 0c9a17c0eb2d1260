package expand_test

import (
	"slices"
	"strings"
	"testing"

	"emend/api"
	"emend/expand"
	"emend/pptok"
)

func TestExamples(t *testing.T) {
	hold(t, []example{
		{"X", "X +|1", []string{"X Y", "Y X +1"}},
		{"F(1 + 2)", "1 + 2 * 1 + 2", []string{"F(a) a * a"}},
		{"F", "F", []string{"F(a) a * a"}},
		{"F ()", "*", []string{"F(a) a * a"}},
		{"C(A, B)", "7", []string{"C(a, b) a##b", "AB 7"}},
		{"C(A,)", "A", []string{"C(a, b) a##b", "AB 7"}},
		{`S(1,  "x")`, `"1, \"x\""`, []string{"S(...) #__VA_ARGS__"}},
		{"G (1)", "[|1|]", []string{"G F", "F(a) [a]"}},
	})
	fail(t, []fault{
		{"F(1, 2)", api.ErrCount, []string{"F(a) a"}},
		{"F(1", api.ErrArgs, []string{"F(a) a"}},
	})
}

func TestH1Args(t *testing.T) {
	for _, x := range []struct {
		text string
		want []string
		n    int
	}{
		{"()", []string{""}, 2}, {"( )", []string{""}, 2}, {"(1)", []string{"1"}, 3}, {"(1 2 +3)", []string{"1 2 +|3"}, 6},
		{"(,)", []string{"", ""}, 3}, {"(,,)", []string{"", "", ""}, 4}, {"(1,)", []string{"1", ""}, 4}, {"(,1)", []string{"", "1"}, 4}, {"(1 , 2)", []string{"1", " 2"}, 5},
		{"(())", []string{"(|)"}, 4}, {"((1,2),3)", []string{"(|1|,|2|)", "3"}, 9}, {"(1,(2,(3,4),5),6)", []string{"1", "(|2|,|(|3|,|4|)|,|5|)", "6"}, 17}, {"(()())", []string{"(|)|(|)"}, 6}, {"((,),(,))", []string{"(|,|)", "(|,|)"}, 9},
		{"(1)2", []string{"1"}, 3}, {"(1))", []string{"1"}, 3}, {"()(1)", []string{""}, 2}, {"(1),(2)", []string{"1"}, 3}, {"(1)(", []string{"1"}, 3},
		// Other brackets are none.
		{"([1,2])", []string{"[|1", "2|]"}, 7}, {"({)", []string{"{"}, 3}, {"(1;2)", []string{"1|;|2"}, 5}, {"(\"(\",'),')", []string{"\"(\"", "'),'"}, 5},
		// Here a Newline is a token like any other one.
		{"(\n1\n)", []string{"<N>|1|<N>"}, 5}, {"(\n,)\n", []string{"<N>", ""}, 4},
	} {
		args, n, ok := expand.Args(pptok.Tokens(2, x.text))
		var got []string
		for _, a := range args {
			got = append(got, shown(a))
		}
		if !slices.Equal(got, x.want) || n != x.n || !ok {
			t.Errorf("Args of %q: %q, %d, %v", x.text, got, n, ok)
		}
	}
}

func TestH1NoArgs(t *testing.T) {
	for _, s := range []string{"", "1", "a(1)", ")", ",", "[1]", "{1}", "+(1)", "\n(1)", "\"(\"1)", "(", "(1", "(1,", "(1,2", "((1)", "(1(2)", "((", "(()", "(\n", "(]", "(')'"} {
		if args, n, ok := expand.Args(pptok.Tokens(2, s)); len(args) > 0 || n != 0 || ok {
			t.Errorf("Args of %q: %v, %d, %v", s, args, n, ok)
		}
	}
	for _, kind := range []int{0, api.Ident, api.Number, api.Quote, api.Str, api.Other, api.Newline, 8, -5, 256 + api.Punct} {
		l := toks(0, "(1)")
		l[0].Kind = kind
		if args, n, ok := expand.Args(l); len(args) > 0 || n != 0 || ok {
			t.Errorf("of a first token of kind %d: %v, %d, %v", kind, args, n, ok)
		}
		l = toks(0, "(1)")
		l[2].Kind = kind
		if args, n, ok := expand.Args(l); len(args) > 0 || n != 0 || ok {
			t.Errorf("of a last token of kind %d: %v, %d, %v", kind, args, n, ok)
		}
		l = toks(0, "(1,2)")
		l[2].Kind = kind
		if args, n, ok := expand.Args(l); len(args) != 1 || !slices.Equal(args[0], l[1:4]) || n != 5 || !ok {
			t.Errorf("of a comma of kind %d: %v, %d, %v", kind, args, n, ok)
		}
	}
}

func TestH1Names(t *testing.T) {
	for _, x := range [][2]string{
		{"", ""}, {"a", "a"}, {"b a b", "a b"}, {"c b a", "a b c"}, {"a a a", "a"}, {"a b c", "a b c"}, {"b A _ a Z B", "A B Z _ a b"}, {"ab a abc b aa", "a aa ab abc b"}, {"X10 X9 X1 X10", "X1 X10 X9"}, {"é z \xff", "z é \xff"},
	} {
		var ms []api.Macro
		for i, name := range strings.Fields(x[0]) {
			ms = append(ms, api.Macro{Name: name, Func: i%2 == 0, Body: toks(i, "1")})
		}
		if got := expand.Names(ms); !slices.Equal(got, strings.Fields(x[1])) {
			t.Errorf("Names of %q: %q", x[0], got)
		}
	}
}

func TestH2Stays(t *testing.T) {
	defs := []string{"X 1", "F(a) 2", "if 3", "N() 4"}
	hold(t, []example{
		{"", "", nil}, {"", "", defs}, {"a +1 'x' \"y\"@", "a +|1 'x' \"y\"|@", nil}, {"X F(1) N()", "X F|(|1|) N|(|)", nil},
		{"x XX X1 _X", "x XX X1 _X", defs}, {"'X' \"X\" 1X .X", "'X' \"X\" 1X .|1", defs}, {"a b", "a b", defs},
		{"F", "F", defs}, {"F 1", "F 1", defs}, {"F;(1)", "F|;|(|1|)", defs}, {"F F)", "F F|)", defs}, {"F[1]", "F|[|1|]", defs}, {"N;", "N|;", defs}, {"F N X", "F N 1", defs},
		{"X", "1", defs}, {" X+X", " 1|+|1", defs}, {"if X F(9)", "3 1 2", defs},
	})
	for _, kind := range []int{0, api.Number, api.Quote, api.Str, api.Punct, api.Other, 8, -1, 256 + api.Ident} {
		l := []api.Tok{{Kind: kind, Text: "X", File: 4, From: 5, To: 6, Blank: true}}
		if got, e := expand.Expand(defined(t, "X 1"), l); !slices.Equal(got, l) || e != api.OK {
			t.Errorf("X of kind %d: %v, %d", kind, got, e)
		}
	}
	for _, kind := range []int{0, api.Ident, api.Number, api.Quote, api.Str, api.Other, 8, -1, 256 + api.Punct} {
		l := toks(0, "F(1)")
		l[1].Kind = kind
		if got, e := expand.Expand(defined(t, "F(a) 2"), l); !slices.Equal(got, l) || e != api.OK {
			t.Errorf("F with a bracket of kind %d: %v, %d", kind, got, e)
		}
	}
}

func TestH2Newlines(t *testing.T) {
	defs := []string{"X 1", "F(a) (a)", "E", "S(a) #a"}
	hold(t, []example{
		{"\n", "", nil}, {"\n\n\n", "", defs}, {"\na", " a", nil}, {"\n\n a", " a", defs}, {"a\n", "a", defs}, {"a\n\nb\nc", "a b c", defs}, {"a \n b", "a b", defs}, {"+\n+\n", "+ +", nil},
		{"\nX", " 1", defs}, {"X\nX\n", "1 1", defs}, {"+X\n+", "+|1 +", defs}, {"E\n+E\n+", " + +", defs},
		{"F\n(1)", "(|1|)", defs}, {"\nF(1)\n", " (|1|)", defs}, {"F(\n1\n)", "(|1|)", defs}, {"F(1\n2)", "(|1 2|)", defs}, {"F\n\n(\n\n)", "(|)", defs}, {"F\n1", "F 1", defs}, {"F\n", "F", defs},
		{"S(\n1\n\n+\n2\n)", "\"1 + 2\"", defs}, {"S(\n)", "\"\"", defs},
	})
	// The Blank that a Newline has says nothing.
	l := []api.Tok{{Kind: api.Newline, Text: "\n", Blank: true}, {Kind: api.Ident, Text: "a"}, {Kind: api.Newline, Text: "b"}, {Kind: api.Newline}, {Kind: api.Ident, Text: "c"}, {Kind: api.Ident, Text: "d"}}
	if got, e := expand.Expand(nil, l); shown(got) != " a c|d" || e != api.OK {
		t.Errorf("%v, %d", got, e)
	}
}

// A Newline that stands in a body is a token like any other one.
func TestH2NewlinesInBodies(t *testing.T) {
	with := func(def string) []string {
		return []string{def, "F(a) [a]", "E", "N() 1", "S(a) #a", "C(a, b) a##b", "Z 0"}
	}
	hold(t, []example{
		{"X", "1|<N>|2", with("X 1\n2")}, {" X+X", " 1|<N>|+|1|<N>", with("X 1\n")}, {"+ X", "+ <N>|1", with("X \n1")}, {"X", "1 <N> 2", with("X 1 \n 2")}, {"X\n+", "<N> +", with("X \n")}, {"X", "0|<N>|0", with("X Z\nZ")},
		{"G", "F|<N>|(|1|)", with("G F\n(1)")}, {"G", "[|<N>|]", with("G F(\n)")}, {"G", "[|1|<N>|0|]", with("G F(1\nZ)")}, {"G", "[|<N>|1|<N>|]", with("G F(\n1\n)")}, {"G(2)", "[|2|<N>|2|]", with("G(a) F(a\na)")},
		{"G", "\"1 2\"", with("G S(1\n2)")}, {"G", "<N>", with("G C(,\n)")}, {"G", "<N>", with("G C(\n,)")}, {"+ X", "+ <N>|1", with("X E\n1")},
	})
	fail(t, []fault{{"G", api.ErrCount, with("G N(\n)")}, {"G", api.ErrGlue, with("G C(\n,1)")}, {"G", api.ErrGlue, with("G C(1,\n)")}})
}

func TestH2FirstMacro(t *testing.T) {
	hold(t, []example{
		{"X", "1", []string{"X 1", "X 2"}}, {"X", "2", []string{"X 2", "X 1"}}, {"X(1)", "5|(|1|)", []string{"X 5", "X(a) 6"}}, {"X X(1)", "X 6", []string{"X(a) 6", "X 5"}}, {"+ X+", "+ +", []string{"X", "Y X", "X 1"}}, {"Y", "1", []string{"Y X", "X 1", "Y 3", "X 2"}},
		// The second one of a name does not come where the first one is hidden.
		{"X", "X", []string{"X X", "X 1"}}, {"X(1)", "X|(|2|)", []string{"X(a) X(2)", "X(a) 3"}},
	})
}

func TestH2Brackets(t *testing.T) {
	with := func(more ...string) []string {
		return append([]string{"F(a) [a]", "G F", "E", "O (", "N() F", "P(a) F"}, more...)
	}
	defs := with()
	hold(t, []example{
		{"F(1)", "[|1|]", defs}, {"F (1)", "[|1|]", defs}, {"F\n(1)", "[|1|]", defs}, {"F/**/(1)", "[|1|]", defs}, {"F\t\t(1)", "[|1|]", defs}, {"F//\n//\n(1)", "[|1|]", defs}, {"F\\\n(1)", "[|1|]", defs},
		// What stands behind what came is an invocation's, wherever its parts come from.
		{"G(1)", "[|1|]", defs}, {"G (1)", "[|1|]", defs}, {"+ G\n(1)+", "+ [|1|]|+", defs}, {"N()(1)", "[|1|]", defs}, {"P(2)(1)", "[|1|]", defs}, {"G", "F", defs}, {"G G(1)", "F [|1|]", defs}, {"N() ()", "[|]", defs}, {"F(G)(1)", "[|F|]|(|1|)", defs}, {"F(G(1))", "[|[|1|]|]", defs},
		{"Q 2)", "[|1 2|]", with("Q F(1")}, {"Q,2)3", "3", with("Q R(1", "R(a, b)")},
		// A bracket that is yet to come of the next token is none.
		{"F O 1)", "F ( 1|)", defs}, {"F E (1)", "F (|1|)", defs}, {"G E(1)", "F (|1|)", defs},
		// What was looked at once and stayed may be replaced later.
		{"F(F)(1)", "[|F|]|(|1|)", defs}, {"I(I)(1)", "I|(|1|)", []string{"I(a) a"}}, {"J(I)(1)", "1", []string{"I(a) a", "J(a) a"}}, {"J(J(I))(1)", "1", []string{"I(a) a", "J(a) a"}},
	})
}

func TestH2NoEnd(t *testing.T) {
	defs := []string{"F(a) a", "N() 1", "V(...) 2", "X 1", "G F", "Q F(", "H(a) F(a", "C(a, b) a##b", "S(a) #a"}
	fail(t, []fault{
		{"F(", api.ErrArgs, defs}, {"F(1", api.ErrArgs, defs}, {"F(1,", api.ErrArgs, defs}, {"F((1)", api.ErrArgs, defs}, {"F(F(1)", api.ErrArgs, defs}, {"F(\n", api.ErrArgs, defs}, {"N(", api.ErrArgs, defs}, {"V(1,2", api.ErrArgs, defs}, {"F(]", api.ErrArgs, defs}, {"F(')'", api.ErrArgs, defs}, {"1 F(1) F(2", api.ErrArgs, defs},
		{"G(1", api.ErrArgs, defs}, {"Q 1", api.ErrArgs, defs}, {"H(1)", api.ErrArgs, defs}, {"X F(", api.ErrArgs, defs},
		// An argument that is expanded is looked at alone.
		{"F(Q)1)", api.ErrArgs, defs}, {"Q Q 1))", api.ErrArgs, defs}, {"F(Q 1)", api.ErrArgs, defs}, {"F(H(1))2)", api.ErrArgs, defs},
	})
	hold(t, []example{{"H(1))", "1", defs}, {"S(Q)", "\"Q\"", defs}, {"S(F)(", "\"F\"|(", defs}, {"C(Q,1)", "Q1", defs}, {"V(Q)", "2", defs}})
}
