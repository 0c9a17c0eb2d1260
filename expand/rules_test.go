package expand_test

import (
	"math"
	"reflect"
	"slices"
	"strconv"
	"strings"
	"testing"

	"emend/api"
	"emend/expand"
	"emend/macro"
	"emend/pptok"
)

// The numbers that this layer tells, and its limits, are the document's.
func TestNumbers(t *testing.T) {
	if api.OK != 0 || api.ErrGlue != 70 || api.ErrArgs != 80 || api.ErrCount != 81 || api.ErrSteps != 82 {
		t.Error("errors")
	}
	if api.MaxSteps != 1000 || api.MaxToks != 4000 {
		t.Error("limits")
	}
	for i, k := range []int{api.Ident, api.Number, api.Quote, api.Str, api.Punct, api.Other, api.Newline} {
		if k != i+1 {
			t.Errorf("%d is %d", i+1, k)
		}
	}
}

// R1: very many brackets, arguments, parameters, macros and tokens.
func TestR1Many(t *testing.T) {
	t.Parallel()
	const many = 1 << 16
	nested := pptok.Tokens(0, strings.Repeat("(", many)+strings.Repeat(")", many)+"x")
	if args, n, ok := expand.Args(nested); len(args) != 1 || len(args[0]) != 2*many-2 || n != 2*many || !ok {
		t.Errorf("Args: %d, %d, %v", len(args), n, ok)
	}
	if args, n, ok := expand.Args(nested[:2*many-1]); len(args) > 0 || n != 0 || ok {
		t.Errorf("Args without an end: %d, %d, %v", len(args), n, ok)
	}
	if args, n, ok := expand.Args(pptok.Tokens(0, "("+strings.Repeat(",", many)+")")); len(args) != many+1 || n != many+2 || !ok {
		t.Errorf("Args of commas: %d, %d, %v", len(args), n, ok)
	}
	var ms []api.Macro
	for i := range many {
		ms = append(ms, api.Macro{Name: "X" + strconv.Itoa(many-1-i), Body: []api.Tok{{Kind: api.Number, Text: strconv.Itoa(i)}}})
	}
	if names := expand.Names(append(ms, ms...)); len(names) != many || !slices.IsSorted(names) {
		t.Errorf("Names: %d", len(names))
	}
	if got, e := expand.Expand(append(ms, ms...), pptok.Tokens(0, "X0 X65535")); shown(got) != "65535 0" || e != api.OK {
		t.Errorf("of many macros: %q, %d", shown(got), e)
	}
	var params []string
	for i := range many {
		params = append(params, "p"+strconv.Itoa(i))
	}
	ms = defined(t, "F("+strings.Join(params, ",")+") p"+strconv.Itoa(many-1)+" #p1 "+strings.Repeat("p7 ", many), "Z(a)")
	if got, e := expand.Expand(ms, pptok.Tokens(0, "F("+strings.Repeat(",", many-2)+"x,y)")); shown(got) != "y \"\"" || e != api.OK {
		t.Errorf("of many parameters: %q, %d", shown(got), e)
	}
	if got, e := expand.Expand(ms, pptok.Tokens(0, strings.Repeat("x\n", many)+"Z("+strings.Repeat("(x)", many)+")")); len(got) > 0 || e != api.ErrSteps {
		t.Errorf("of many tokens: %d, %d", len(got), e)
	}
	if got, e := expand.Expand(ms, pptok.Tokens(0, strings.Repeat("\n", many)+"Z("+strings.Repeat("Z(x),", many)+")")); len(got) > 0 || e != api.ErrCount {
		t.Errorf("of many arguments: %d, %d", len(got), e)
	}
}

// R1: invocations that stand very deep, and long arguments that come very often, take no more than they must.
func TestR1Deep(t *testing.T) {
	t.Parallel()
	const many = 1 << 16
	deep := func(n int, within string) []api.Tok {
		return pptok.Tokens(0, strings.Repeat("F(", n)+within+strings.Repeat(")", n))
	}
	long := strings.Repeat("y ", many)
	ms := defined(t, "F(a) a", "Z(a)", "P(a) "+strings.Repeat("a##x ", many)+"a##a", "S(a) "+strings.Repeat("#a ", many))
	for i, l := range [][]api.Tok{deep(many, "y"), deep(1000, long), deep(999, "F(y)F()"), pptok.Tokens(0, "P("+long+")"), pptok.Tokens(0, "S("+long+")")} {
		if got, e := expand.Expand(ms, l); len(got) > 0 || e != api.ErrSteps {
			t.Errorf("list %d: %d, %d", i, len(got), e)
		}
	}
	for _, l := range [][]api.Tok{deep(1000, "y"), deep(999, "Z("+long+")y"), pptok.Tokens(0, "Z("+strings.Repeat("(", many)+strings.Repeat(")", many)+")y")} {
		if got, e := expand.Expand(ms, l); shown(got) != "y" || e != api.OK {
			t.Errorf("%q, %d", shown(got), e)
		}
	}
	if got, e := expand.Expand(ms, pptok.Tokens(0, "P()")); len(got) > 0 || e != api.ErrSteps {
		t.Errorf("P of nothing: %d, %d", len(got), e)
	}
}

// R1: hide sets of as many names as there can be, which many tokens have.
func TestR1ManyHidden(t *testing.T) {
	t.Parallel()
	var defs []string
	for i := range 1000 {
		defs = append(defs, "F"+strconv.Itoa(i)+"(a) F"+strconv.Itoa((i+1)%1000)+"(a)")
	}
	ms := defined(t, defs...)
	got, e := expand.Expand(ms, pptok.Tokens(0, "F0("+strings.Repeat("y ", 3000)+")"))
	if len(got) != 3003 || e != api.OK || got[0].Text != "F0" {
		t.Errorf("%d tokens, %d", len(got), e)
	}
}

// R1: the calls end at tokens that no text has, and at macros that no Define tells, of which nothing else is promised.
func TestR1AnyArguments(t *testing.T) {
	kinds := []int{0, 1, 2, 3, 4, 5, 6, 7, 8, -1, math.MinInt, math.MaxInt}
	var l []api.Tok
	for i, k := range kinds {
		for _, text := range []string{"", "F", "(", ")", ",", "##", "#", "a", va, "\n", "\xff"} {
			l = append(l, api.Tok{Kind: k, Text: text, File: -i, From: i, To: -i, Blank: i%2 == 0})
		}
	}
	bodies := listsUpTo("a#$V1", 3)
	for _, body := range bodies {
		for _, m := range []api.Macro{
			{Name: "F"}, {Name: "F", Func: true}, {Name: "F", Params: []string{"a", "a"}}, {Name: "F", Variadic: true}, {Name: "F", Func: true, Variadic: true, Params: []string{va, "a", ""}}, {Name: "", Func: true, Params: []string{"F"}},
		} {
			m.Body = toks(1, body)
			expand.Expand([]api.Macro{m}, l)
			expand.Expand([]api.Macro{m, {}, {Name: "1"}}, toks(0, "F(1)F(1,2)F()F F(F(1,2,,))"))
			expand.Names([]api.Macro{m, {}, m})
		}
	}
	for i := range l {
		expand.Args(l[i:])
	}
}

// An Ident whose text is empty may be a macro's name, and a token whose text is empty is no placemarker.
func TestR1EmptyTexts(t *testing.T) {
	m, e := macro.Define([]api.Tok{{Kind: api.Ident}, {Kind: api.Number, Text: "1", Blank: true}})
	if e != api.OK {
		t.Fatal(e)
	}
	f := defined(t, "F(a) [a##1]")[0]
	f.Body = slices.Insert(f.Body, 0, api.Tok{Kind: api.Other})
	got, e := expand.Expand([]api.Macro{m, f}, []api.Tok{{Kind: api.Ident, Blank: true}, {Kind: api.Punct}, {Kind: api.Ident, Text: "F"}, {Kind: api.Punct, Text: "("}, {Kind: api.Other, From: 3}, {Kind: api.Punct, Text: ")"}})
	if e != api.OK || len(got) != 6 || shown(got) != " 1|||[|1|]" || got[4].Kind != api.Number || got[4].From != 3 {
		t.Errorf("%q, %d", shown(got), e)
	}
}

// R4: a nil list and an empty one are the same, within macros too.
func TestR4NoLists(t *testing.T) {
	for _, none := range [][]api.Tok{nil, {}, toks(0, "ab")[:0]} {
		for _, ms := range [][]api.Macro{nil, {}, {{Name: "E", Params: []string{}, Body: none}, {Name: "N", Func: true, Params: []string{}, Body: none}}, {{Name: "E", Body: none}, {Name: "N", Func: true}}} {
			if got, e := expand.Expand(ms, none); len(got) > 0 || e != api.OK {
				t.Errorf("Expand: %v, %d", got, e)
			}
			want := "E N|(|)"
			if len(ms) > 0 {
				want = ""
			}
			if got, e := expand.Expand(ms, pptok.Tokens(0, "E N()")); shown(got) != want || e != api.OK {
				t.Errorf("of %v: %q, %d", ms, shown(got), e)
			}
		}
		if args, n, ok := expand.Args(none); len(args) > 0 || n != 0 || ok {
			t.Errorf("Args: %v, %d, %v", args, n, ok)
		}
	}
	if len(expand.Names(nil)) > 0 || len(expand.Names([]api.Macro{})) > 0 {
		t.Error("Names of no macros")
	}
}

var spoiling = []string{"F(a) a E #a a##1 E a", "X F(X Y) Y", "Y  E 2", "E", "V(...) __VA_ARGS__ #__VA_ARGS__"}

const spoilt = "E X\n F( E X,)E F( E Y E)\nV(X, E,Y) E"

// R5: what is handed in stays as it was, also what stands behind its end.
func TestR5NothingIsChanged(t *testing.T) {
	ms, was := defined(t, spoiling...), defined(t, spoiling...)
	for i := range ms {
		ms[i].Body = append(ms[i].Body, toks(8, " y x")...)[:len(ms[i].Body)]
	}
	for _, text := range []string{spoilt, "X X", "F(E X)", "(E, X,(Y))", "F(X", "V( E )+"} {
		whole := append(pptok.Tokens(0, text), toks(8, " y x")...)
		l, before := whole[:len(whole)-2], slices.Clone(whole)
		expand.Expand(ms, l)
		expand.Args(l)
		expand.Names(ms)
		if !slices.Equal(whole, before) {
			t.Errorf("%q is now %v", text, whole)
		}
		for i, m := range ms {
			if n := len(m.Body); !macro.Same(m, was[i]) || !slices.Equal(m.Body, was[i].Body) || !slices.Equal(m.Body[:n+2][n:], toks(8, " y x")) {
				t.Errorf("behind %q, the macro is %v", text, m)
			}
		}
	}
}

// An answer is its receiver's own: whoever changes it changes nothing else.
func TestR5AnswersShareNothing(t *testing.T) {
	ms, was := defined(t, spoiling...), defined(t, spoiling...)
	for _, text := range []string{"X V( E X , Y )", "a b c", "F(E X)x"} {
		l, before := pptok.Tokens(0, text), pptok.Tokens(0, text)
		got, e := expand.Expand(ms, l)
		if e != api.OK && text != "F(E X)x" {
			t.Fatal(e)
		}
		for i := range got {
			got[i] = api.Tok{Text: "spoilt"}
		}
		_ = append(got, toks(8, "yx")...)
		if !slices.Equal(l, before) || !reflect.DeepEqual(ms, was) {
			t.Errorf("%q: %v, %v", text, l, ms)
		}
	}
	l, before := toks(0, "(a,b,(c,d),,e)"), toks(0, "(a,b,(c,d),,e)")
	args, _, _ := expand.Args(l)
	for i := range args {
		for k := range args[i] {
			args[i][k].Text = strconv.Itoa(i)
		}
		args[i] = append(args[i], toks(8, "yx")...)
	}
	if !slices.Equal(l, before) || shown(slices.Concat(args...)) != "0|y|x|1|y|x|2|2|2|2|2|y|x|y|x|4|y|x" {
		t.Errorf("%v, %q", l, shown(slices.Concat(args...)))
	}
	names := expand.Names(ms)
	names[0] = "spoilt"
	if !reflect.DeepEqual(ms, was) {
		t.Errorf("%v", ms)
	}
}

// R6: a call hangs on its arguments alone.
func TestR6NothingIsKept(t *testing.T) {
	ms := defined(t, "F(a) a X #a", "X F(X Y) Y", "Y 2", "N() 1")
	var first []api.Tok
	for i := range 4 {
		got, e := expand.Expand(ms, pptok.Tokens(0, "X F(Y) X N()"))
		if i == 0 {
			first = slices.Clone(got)
		}
		if e != api.OK || len(got) == 0 || !slices.Equal(got, first) {
			t.Fatalf("%d: %q, %d", i, shown(got), e)
		}
		for k := range got {
			got[k].Text = "spoilt"
		}
		expand.Expand(ms, pptok.Tokens(0, "N(1)"))
		expand.Expand(ms, pptok.Tokens(0, "F(X) F("))
		expand.Expand(ms, pptok.Tokens(0, strings.Repeat("X ", 1001)))
		expand.Expand(ms[1:], pptok.Tokens(0, "X F(Y)"))
	}
}
