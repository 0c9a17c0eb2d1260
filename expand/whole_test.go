package expand_test

import (
	"slices"
	"testing"

	"emend/api"
	"emend/expand"
	"emend/pptok"
)

// No name is replaced within what came of it: directly, through another macro, through an argument, or made of two tokens.
func TestH5Hidden(t *testing.T) {
	hold(t, []example{
		{"X", "X +|1", []string{"X X +1"}}, {"X X", "X X", []string{"X X"}}, {"F(1)", "F|(|1|)", []string{"F(a) F(a)"}}, {"F(1)(2)", "F|(|2|)", []string{"F(a) F"}},
		{"X", "X", []string{"X Y", "Y X"}}, {"X Y", "X Y", []string{"X Y", "Y X"}}, {"X", "X Y Z", []string{"X Y Z", "Y X Y", "Z Z"}}, {"F(1)", "F|(|1|)", []string{"F(a) G(a)", "G(a) F(a)"}},
		// An argument is expanded first: what is in it did not come of the macro then.
		{"F(F(1))", "[|[|1|]|]", []string{"F(a) [a]"}}, {"F(F)(1)", "F|(|1|)", []string{"F(a) a"}}, {"X", "[|X|]", []string{"X F(X)", "F(a) [a]"}}, {"F(G(F))(1)", "F|(|1|)", []string{"F(a) a", "G(a) a"}}, {"G(G(1))", "1", []string{"F(a) a", "G(a) F(a)"}}, {"X", "X|;|X", []string{"X F(X;Y)", "Y X", "F(a) a"}},
		{"XY", "XY", []string{"XY X##Y"}}, {"C(C,)(1,2)", "C|(|1|,|2|)", []string{"C(a, b) a##b"}}, {"C(,C)(1,2)", "C|(|1|,|2|)", []string{"C(a, b) a##b"}}, {"C(X,Y)", "C|(|1|,|2|)", []string{"C(a, b) a##b", "XY C(1,2)"}}, {"C(X,Y)", "12", []string{"C(a, b) a##b", "D(a, b) a##b", "XY D(1,2)"}},
	})
}

// What two tokens make is hidden where both were.
func TestH5HiddenInBoth(t *testing.T) {
	hold(t, []example{
		{"B(XX)", "XX", []string{"A(a, b) a##b", "XX X,X", "B(a) A(a)"}}, {"B(XX)", "X", []string{"A(a, b) a##b", "XX X", "B(a) A(a,X)"}}, {"B(XX)", "X", []string{"A(a, b) a##b", "XX X", "B(a) A(X,a)"}}, {"B(XX)", "XX", []string{"A(a, b) a##b", "XX X", "B(a) A(a,a)"}},
		// One whose other side is empty stays as it was.
		{"B(X)", "X", []string{"A(a, b) a##b", "X X", "B(a) A(a,)"}}, {"B(X)", "X", []string{"A(a, b) a##b", "X X", "B(a) A(,a)"}},
	})
}

// What is hidden in an invocation's end counts, too.
func TestH5HiddenInTheEnd(t *testing.T) {
	hold(t, []example{
		{"f(2)(9)", "2|*|9|*|g", []string{"f(a) a*g", "g(a) f(a)"}}, {"G0(42)", "42", []string{"NIL(x) x", "G0(a) NIL(G1)(a)", "G1(a) NIL(a)"}}, {"X(1)", "F|(|1|)", []string{"X F", "F(a) X(a)"}}, {"X 1)", "F|( 1|)", []string{"X F(", "F(a) X a)"}}, {"X", "X", []string{"X F()", "F() X"}}, {"F()()", "G", []string{"F() G", "G() F()"}},
	})
}

// T1: what C11 says in 6.10.3.5 comes of its examples.
func TestT1ExamplesOfC11(t *testing.T) {
	third := []string{"x 2", "f(a) f(x * (a))", "g f", "z z[0]", "h g(~", "m(a) a(w)", "w 0,1", "t(a) a", "p() int", "q(x) x", "r(x,y) x ## y", "str(x) # x"}
	fourth := []string{"str(s) # s", "xstr(s) str(s)", `debug(s, t) printf("x" # s "= %d, x" # t "= %s", x ## s, x ## t)`, "INCFILE(n) vers ## n", "glue(a, b) a ## b", "xglue(a, b) glue(a, b)", `HIGHLOW "hello"`, `LOW LOW ", world"`}
	fifth := []string{"t(x,y,z) x ## y ## z", "hash_hash # ## #", "mkstr(a) # a", "in_between(a) mkstr(a)", "join(c, d) in_between(c hash_hash d)"}
	seventh := []string{"debug(...) fprintf(stderr, __VA_ARGS__)", "showlist(...) puts(#__VA_ARGS__)", "report(test, ...) ((test)?puts(#test): printf(__VA_ARGS__))"}
	for _, x := range []example{
		{"f(y+1) + f(f(z)) % t(t(g)(0) + t)(1);", "f(2 * (y+1)) + f(2 * (f(2 * (z[0])))) % f(2 * (0)) + t(1);", third},
		{"g(x+(3,4)-w) | h 5) & m\n(f)^m(m);", "f(2 * (2+(3,4)-0,1)) | f(2 * (~ 5)) & f(2 * (0,1))^m(0,1);", third},
		{"p() i[q()] = { q(1), r(2,3), r(4,), r(,5), r(,) };", "int i[] = { 1, 23, 4, 5, };", third},
		{"char c[2][6] = { str(hello), str() };", "char c[2][6] = { \"hello\", \"\" };", third},
		{"debug(1, 2);", `printf("x" "1" "= %d, x" "2" "= %s", x1, x2);`, fourth},
		{"fputs(str(strncmp(\"abc\\0d\", \"abc\", '\\4') // this goes away\n== 0) str(: @\\n), s);", `fputs("strncmp(\"abc\\0d\", \"abc\", '\\4') == 0" ": @\n", s);`, fourth},
		{"xstr(INCFILE(2).h)", `"vers2.h"`, fourth},
		{"glue(HIGH, LOW);", `"hello";`, fourth}, {"xglue(HIGH, LOW)", `"hello" ", world"`, fourth},
		{"{ t(1,2,3), t(,4,5), t(6,,7), t(8,9,), t(10,,), t(,11,), t(,,12), t(,,) };", "{ 123, 45, 67, 89, 10, 11, 12, };", fifth},
		{"join(x, y);", `"x ## y";`, fifth},
		{`debug("Flag"); debug("X = %d\n", x);`, `fprintf(stderr, "Flag"); fprintf(stderr, "X = %d\n", x);`, seventh},
		{"showlist(The first, second, and third items.);", `puts("The first, second, and third items.");`, seventh},
		{`report(x>y, "x is %d but y is %d", x, y);`, `((x>y)?puts("x>y"): printf("x is %d but y is %d", x, y));`, seventh},
	} {
		got, e := expand.Expand(defined(t, x.defs...), pptok.Tokens(0, x.text))
		alike := func(a, b api.Tok) bool { return a.Kind == b.Kind && a.Text == b.Text }
		if !slices.EqualFunc(got, pptok.Tokens(0, x.want), alike) || e != api.OK {
			t.Errorf("%q: %q, %d", x.text, shown(got), e)
		}
	}
}

// What has no macro's name in it stays, whatever the macros are.
func TestH5Stays(t *testing.T) {
	ms := defined(t, "F(a) a##1", "X F(", "G", "a1 X")
	for _, s := range listsUpTo("a()$#,\" \n", 5) {
		l := toks(0, s)
		if got, e := expand.Expand(ms, l); !slices.Equal(got, plain(withoutNewlines(l))) || e != api.OK {
			t.Fatalf("%q: %v, %d", s, got, e)
		}
	}
}

// It ends where macros call each other, and themselves, as often as they can.
func TestH5Ends(t *testing.T) {
	for _, defs := range [][]string{
		{"X X X Y Y", "Y X Y X Y", "F(a) a a"}, {"X Y Y Y", "Y Z Z Z", "Z W W W", "W X X X X"}, {"X F(F(F(X", "F(a) X a) a)"}, {"F(a) G(a) G(a) F(a)", "G(a) F(a) F(a) G(a)", "X F(G(F(X)))"}, {"F(a) F(F(a)) a F", "X F(X)(X)(X)(X)"}, {"F(a) a(a)(a)", "G(a) F(a)(F)", "X F(G)(F)(G)"},
	} {
		ms := defined(t, defs...)
		for _, s := range []string{"X", "X X X X", "F(X)", "F(F)(F)(F)", "F(F(F(F(X))))", "F(X)(X)(X))))", "F(X X)(X)"} {
			same(t, ms, pptok.Tokens(0, s))
		}
	}
}
