package expand_test

import (
	"slices"
	"strconv"
	"strings"
	"testing"

	"emend/api"
	"emend/expand"
	"emend/pptok"
)

// stepping is a text in which as many tokens are replaced as it is asked for, with the macros.
type stepping struct {
	text func(n int) string
	defs []string
}

// some is a text some times, each time for so many steps, and what is left over as names that are replaced once.
func some(text string, steps int) func(n int) string {
	return func(n int) string {
		return strings.Repeat(text+" ", n/steps) + strings.Repeat("X ", n%steps)
	}
}

// 1000 tokens may be replaced.
func TestH4Steps(t *testing.T) {
	var chain []string
	for i := range 1002 {
		chain = append(chain, "L"+strconv.Itoa(i)+" L"+strconv.Itoa(i+1))
	}
	defs := []string{"X 1", "E", "F(a) a", "G X X X X", "D(a) a a", "S(a) #a", "C(a) a##1", "X1 2", "Z(a)", "H H H"}
	for i, x := range []stepping{
		{some("X", 1), defs}, {some("E", 1), defs}, {some("F(1)", 1), defs}, {some("F()", 1), defs}, {some("H", 1), defs}, {some("F (\nX )", 2), defs}, {some("G", 5), defs},
		// An argument is expanded once, however often it stands in the body, and only where it does.
		{some("D(X)", 2), defs}, {some("D(X X)", 3), defs}, {some("S(X)", 1), defs}, {some("Z(X)", 1), defs}, {some("C(X)", 2), defs},
		{func(n int) string { return strings.Repeat("F(", n) + strings.Repeat(")", n) }, defs},
		{func(n int) string { return "F(" + strings.Repeat("X ", n-1) + ")" }, defs},
		{func(n int) string { return "F(F(" + strings.Repeat("X ", n-3) + ") X)" }, defs},
		{func(n int) string { return "D(" + strings.Repeat("X ", n-2) + ") X" }, defs},
		{func(n int) string { return "L" + strconv.Itoa(1002-n) }, chain},
	} {
		ms := defined(t, x.defs...)
		for _, n := range []int{999, 1000, 1001, 1002} {
			want := api.OK
			if n > 1000 {
				want = api.ErrSteps
			}
			if got, e := expand.Expand(ms, pptok.Tokens(0, x.text(n))); e != want || e != api.OK && len(got) > 0 {
				t.Errorf("text %d, %d tokens: %d tokens, %d", i, n, len(got), e)
			}
		}
	}
}

// Behind 1000 tokens ErrSteps is told ahead of what else is wrong, but where an invocation has no end.
func TestH4StepsFirst(t *testing.T) {
	defs := []string{"X 1", "F(a) a", "N() 2", "C(a, b) a##b"}
	steps := func(n int) string { return strings.Repeat("X ", n) }
	fail(t, []fault{
		{steps(999) + "N(1)", api.ErrCount, defs}, {steps(1000) + "N(1)", api.ErrSteps, defs}, {steps(999) + "C(+,a)", api.ErrGlue, defs}, {steps(1000) + "C(+,a)", api.ErrSteps, defs}, {steps(1000) + "F(", api.ErrArgs, defs}, {steps(1001) + "F(", api.ErrSteps, defs}, {steps(998) + "F(N(1))", api.ErrCount, defs}, {steps(999) + "F(N(1))", api.ErrSteps, defs}, {steps(1000) + "F(N(1))", api.ErrSteps, defs}, {steps(999) + "F(F(", api.ErrArgs, defs}, {steps(999) + "F(X)", api.ErrSteps, defs},
	})
}

// check holds how many tokens come of a text, -1 for ErrSteps.
func check(t *testing.T, text string, want int, defs ...string) {
	t.Helper()
	got, e := expand.Expand(defined(t, defs...), pptok.Tokens(0, text))
	if want < 0 && (e != api.ErrSteps || len(got) > 0) || want >= 0 && (e != api.OK || len(got) != want) {
		t.Errorf("%d tokens, %d, not %d", len(got), e, want)
	}
}

func y(n int) string {
	return strings.Repeat("y ", n)
}

// 4000 tokens may come of one.
func TestH4OfOne(t *testing.T) {
	t.Parallel()
	check(t, "X", 4000, "X "+y(4000))
	check(t, "X", -1, "X "+y(4001))
	check(t, "X", -1, "X "+y(5000))
	check(t, "F()", 4000, "F(a) "+y(4000)+"a##a")
	check(t, "F()", -1, "F(a) "+y(4001)+"a##a")
	check(t, "F()", 4000, "F(a) "+strings.Repeat("a##a y ", 4000)+"a##a")
	check(t, "F()", -1, "F(a) "+strings.Repeat("a##a y ", 4001))
	check(t, "F()", 4000, "F(a) a##a "+strings.Repeat("a ", 5000)+y(4000))
	check(t, "F("+y(1000)+")", 4000, "F(a) a a a a")
	check(t, "F("+y(1001)+")", -1, "F(a) a a a a")
	check(t, "F("+y(2000)+","+y(2000)+")", 4000, "F(a, b) a b")
	check(t, "F("+y(2000)+","+y(2001)+")", -1, "F(a, b) a b")
	// Two tokens that are glued are one.
	check(t, "F("+y(4000)+")", 4000, "F(a) x##a")
	check(t, "F("+y(4001)+")", -1, "F(a) x##a")
	check(t, "F("+y(4000)+")", 4000, "F(a) x##a##x")
	check(t, "F("+y(4001)+")", -1, "F(a) x##a##x")
	check(t, "F("+y(2000)+","+y(2001)+")", 4000, "F(a, b) a##b")
	check(t, "F("+y(2001)+","+y(2001)+")", -1, "F(a, b) a##b")
	check(t, "F("+y(2000)+")", 3999, "F(a) a##a")
	check(t, "F("+y(2001)+")", -1, "F(a) a##a;")
	check(t, "X", 4000, "X "+strings.Repeat("1 ## 2 ", 4000))
	check(t, "X", -1, "X "+strings.Repeat("1 ## 2 ", 4001))
	// Newlines of a body are tokens.
	check(t, "X", 4000, "X "+strings.Repeat("y\n", 2000))
	check(t, "X", -1, "X "+strings.Repeat("y\n", 2000)+"y")
	// They count, though they do not stay.
	check(t, "X", 0, "X Z("+y(3997)+")", "Z(a)")
	check(t, "X", -1, "X Z("+y(3998)+")", "Z(a)")
	check(t, "Z(X)", 0, "X "+y(4001), "Z(a)")
}

// What is wrong with the signs is told first, also where it stands behind many tokens.
func TestH4GlueFirst(t *testing.T) {
	many := y(9000)
	fail(t, []fault{
		{"X", api.ErrGlue, []string{"X + ## a " + many}}, {"X", api.ErrGlue, []string{"X " + many + "+ ## a"}}, {"X", api.ErrGlue, []string{"X " + many + "+ ## a " + many}}, {"X", api.ErrSteps, []string{"X " + many + "b ## a"}}, {"X", api.ErrSteps, []string{"X b ## a " + many + "b ## a " + many}},
		{"F(" + many + ")", api.ErrSteps, []string{"F(a) a##x"}}, {"F(" + many + "+)", api.ErrGlue, []string{"F(a) a##x"}}, {"F(+ " + many + ")", api.ErrSteps, []string{"F(a) a##x"}}, {"F(+ " + many + ")", api.ErrGlue, []string{"F(a) x##a"}}, {"F(" + many + "+)", api.ErrSteps, []string{"F(a) x##a"}},
		{"F(" + many + "+)", api.ErrGlue, []string{"F(a) x##a " + many + "a##x"}}, {"F(+ " + many + ")", api.ErrGlue, []string{"F(a) a##x " + many + "x##a"}}, {"F(" + many + "+,)", api.ErrSteps, []string{"F(a, b) a##b"}}, {"F(" + many + "+,+)", api.ErrSteps, []string{"F(a, b) a##b"}}, {"F(" + many + "+,-)", api.ErrGlue, []string{"F(a, b) a##b"}}, {"F(,+ " + many + ")", api.ErrGlue, []string{"F(a, b) " + many + "a##b-##a##b"}}, {"F(,+ " + many + ")", api.ErrGlue, []string{"F(a, b) " + many + "a##b##a##+ x##a##b"}},
	})
}

// 4000 tokens may stay of all.
func TestH4OfAll(t *testing.T) {
	t.Parallel()
	check(t, y(4000), 4000)
	check(t, y(4001), -1)
	check(t, y(9000), -1)
	check(t, strings.Repeat("y\n", 4000), 4000)
	check(t, strings.Repeat("\n", 9000), 0)
	check(t, strings.Repeat("X ", 800), 4000, "X 1 2 3 4 5")
	check(t, strings.Repeat("X ", 800)+"y", -1, "X 1 2 3 4 5")
	check(t, strings.Repeat("E ", 1000)+y(4000), 4000, "E")
	check(t, y(2000)+"Z("+y(9000)+")"+y(2000), 4000, "Z(a)")
	check(t, y(2000)+"Z("+y(9000)+")"+y(2001), -1, "Z(a)")
	check(t, strings.Repeat("X ", 1000), -1, "X "+y(4000))
	got, e := expand.Expand(nil, pptok.Tokens(0, y(4000)))
	if !slices.Equal(got, pptok.Tokens(0, y(4000))) || e != api.OK {
		t.Errorf("4000 tokens do not stay: %d, %d", len(got), e)
	}
	// What is wrong behind them is told first: then there is nothing that stays.
	defs := []string{"F(a) a", "N() 1", "C(a, b) a##b"}
	fail(t, []fault{{y(4001) + "F(", api.ErrArgs, defs}, {y(4001) + "N(1)", api.ErrCount, defs}, {y(4001) + "C(+,a)", api.ErrGlue, defs}})
}

// 4000 tokens may stay of an argument, of which more may be taken.
func TestH4OfAnArgument(t *testing.T) {
	check(t, "F("+y(4000)+")", 4000, "F(a) a")
	check(t, "F("+y(4001)+")", -1, "F(a) a")
	check(t, "F(Z("+y(9000)+")"+y(4000)+")", 4000, "F(a) a", "Z(a)")
	check(t, "Z("+y(9000)+")", 0, "Z(a)")
	check(t, "S("+y(9000)+")", 1, "S(a) #a")
	check(t, "S("+y(9000)+", 1)", 2, "S(a, b) #a b")
	defs := []string{"M(a) a;+##-", "G(a, b) b a", "N() 1", "K(a, b) b"}
	fail(t, []fault{
		{"M(" + y(4000) + ")", api.ErrGlue, defs}, {"M(" + y(4001) + ")", api.ErrSteps, defs}, {"M(" + y(4001) + "N(1))", api.ErrCount, defs}, {"M(" + y(4001) + ",)", api.ErrCount, defs},
		{"G(" + y(4001) + ",N(1))", api.ErrSteps, defs}, {"G(" + y(4000) + ",N(1))", api.ErrCount, defs}, {"G(N(1)," + y(4001) + ")", api.ErrCount, defs}, {"K(" + y(4001) + ",N(1))", api.ErrCount, defs},
	})
}
