package ifexpr_test

import (
	"slices"
	"testing"

	"emend/api"
	"emend/ifexpr"
	"emend/pptok"
)

func TestI3Defined(t *testing.T) {
	names := []string{"X", "W", "X", "if"}
	for _, x := range [][2]string{
		{"", ""}, {"1", "1"}, {"X", "X"}, {"X Y + ( W )", "X Y + ( W )"}, {"( )", "( )"}, {") (", ") ("},
		{"defined X", "1"}, {"defined Y", "0"}, {"defined ( X )", "1"}, {"defined ( Y )", "0"}, {"defined W", "1"}, {"defined if", "1"}, {"defined x", "0"}, {"defined XX", "0"}, {"defined ( W )", "1"},
		{"! defined X && defined Y", "! 1 && 0"}, {"defined X Y", "1 Y"}, {"X defined Y", "X 0"}, {"defined X ( )", "1 ( )"}, {"defined ( X ) )", "1 )"}, {"( defined ( X ) )", "( 1 )"}, {"( defined X )", "( 1 )"}, {"defined ( X ) ( X )", "1 ( X )"},
		// A name that is asked for twice is told twice.
		{"defined X || defined X", "1 || 1"}, {"defined ( Y ) defined ( Y )", "0 0"}, {"defined X defined Y defined X", "1 0 1"},
		// What is asked is a name, too, if it is this one.
		{"defined defined", "0"}, {"defined ( defined )", "0"}, {"defined defined X", "0 X"}, {"defined defined defined X", "0 1"}, {"defined ( defined ) X", "0 X"}, {"defined defined defined defined", "0 0"},
		{"Defined X", "Defined X"}, {"definedX", "definedX"}, {"other-defined X", "defined X"}, {"punct-defined ( X", "defined ( X"}, {"other-defined", "defined"}, {"other-defined defined X", "defined 1"}, {"defined ident1", "0"}, {"defined ident(", "0"}, {"defined ident( X", "0 X"}, {"defined ( ident( )", "0"},
		// Newlines stand where they stood.
		{"newline", "\n"}, {"newline defined X newline newline Y", "\n 1 \n \n Y"}, {"defined ( X ) newline", "1 \n"},
	} {
		l, e := ifexpr.Defined(toks(x[0]), names)
		if shown(l) != x[1] || e != api.OK {
			t.Errorf("%q: %q, %d, not %q", x[0], shown(l), e, x[1])
		}
	}
	for _, none := range [][]string{nil, {}, {"x"}, {""}, {" X"}, {"defined X"}} {
		if l, e := ifexpr.Defined(toks("defined X + defined ( X ) + X"), none); shown(l) != "0 + 0 + X" || e != api.OK {
			t.Errorf("of %q: %q, %d", none, shown(l), e)
		}
	}
	if l, e := ifexpr.Defined(toks("defined defined + defined ( defined )"), []string{"defined"}); shown(l) != "1 + 1" || e != api.OK {
		t.Errorf("with the name itself: %q, %d", shown(l), e)
	}
}

func TestI3Wrong(t *testing.T) {
	for _, s := range []string{
		"defined", "1 + defined", "X defined", "defined X defined", "defined defined defined", "defined ( X ) defined",
		"defined 1", "defined 'X'", "defined \"X\"", "defined + X", "defined )", "defined ) X", "defined [ X ]", "defined ! X", "defined @", "defined punctX", "defined other-defined", "defined punct-defined X", "defined ( other-defined )", "defined numberX",
		"defined (", "defined ( X", "defined ( X X )", "defined ( X +", "defined ( X , X )", "defined ( X (", "defined ( )", "defined ( ) X", "defined ( 1 )", "defined ( 'X' )", "defined ( ( X ) )", "defined ( ( X", "defined ( ! X )", "defined ( + )", "defined ( X ]", "defined ( X other)", "defined other( X )",
		"X + defined ( X ) + defined", "defined ( X ) + defined ( X", "defined ( defined X )", "defined ( defined",
		// A Newline is no name, and no bracket.
		"defined newline", "defined newline X", "defined newline ( X )", "defined ( newline X )", "defined ( X newline )", "defined ( newline", "newline defined",
	} {
		l, e := ifexpr.Defined(toks(s), []string{"X", "defined", "1"})
		if len(l) > 0 || e != api.ErrExpr {
			t.Errorf("%q: %q, %d", s, shown(l), e)
		}
	}
}

// What comes has the place and the blank of its `defined`, and what stays has its own.
func TestI3Places(t *testing.T) {
	got, e := ifexpr.Defined(pptok.Tokens(7, "X+defined Y|| defi\\\nned ( X) X"), []string{"X"})
	want := []api.Tok{
		{Kind: api.Ident, Text: "X", File: 7, From: 0, To: 1},
		{Kind: api.Punct, Text: "+", File: 7, From: 1, To: 2},
		{Kind: api.Number, Text: "0", File: 7, From: 2, To: 9},
		{Kind: api.Punct, Text: "||", File: 7, From: 11, To: 13},
		{Kind: api.Number, Text: "1", File: 7, From: 14, To: 23, Blank: true},
		{Kind: api.Ident, Text: "X", File: 7, From: 29, To: 30, Blank: true},
	}
	if !slices.Equal(got, want) || e != api.OK {
		t.Errorf("%+v, %d, not %+v", got, e, want)
	}
}

// All short lists against I3's words.
func TestI3AllShortLists(t *testing.T) {
	t.Parallel()
	came := map[api.Errno]int{}
	check := func(l []api.Tok) {
		for i := range l {
			l[i].File, l[i].From, l[i].To, l[i].Blank = i%3, 10*i, 10*i+i%4, i%2 == 0
		}
		for _, names := range [][]string{{"X"}, {"Y", "defined"}} {
			got, e := ifexpr.Defined(l, names)
			want, f := toldDefined(l, names)
			if !slices.Equal(got, want) || e != f {
				t.Fatalf("%q of %q: %q, %d, not %q, %d", names, shown(l), shown(got), e, shown(want), f)
			}
			came[e]++
		}
	}
	eachList(toks("defined X Y ( ) +"), 6, check)
	eachList(toks("defined X newline ( ) other( other) other-defined ident( 1"), 5, check)
	if came[api.OK] < 1000 || came[api.ErrExpr] < 1000 {
		t.Error(came)
	}
}
