package macro_test

import (
	"slices"
	"strconv"
	"testing"

	"emend/api"
	"emend/macro"
)

// The numbers that this layer tells are the document's.
func TestNumbers(t *testing.T) {
	for i, e := range []api.Errno{api.ErrName, api.ErrParams, api.ErrBlank, api.ErrPaste, api.ErrHash, api.ErrVa} {
		if int(e) != 60+i {
			t.Errorf("%d is %d", 60+i, e)
		}
	}
	for i, k := range []int{api.Ident, api.Number, api.Quote, api.Str, api.Punct, api.Other, api.Newline} {
		if k != i+1 {
			t.Errorf("%d is %d", i+1, k)
		}
	}
}

// R1: very many parameters and tokens are read as few are, in little more steps than there are tokens.
func TestR1Many(t *testing.T) {
	const many = 1 << 17
	word := func(i int) api.Tok { return api.Tok{Kind: api.Ident, Text: "p" + strconv.Itoa(i)} }
	l := []api.Tok{{Kind: api.Ident, Text: "F"}, {Kind: api.Punct, Text: "("}}
	for i := range many {
		l = append(l, word(i), api.Tok{Kind: api.Punct, Text: ","})
	}
	l = append(l, api.Tok{Kind: api.Punct, Text: "..."}, api.Tok{Kind: api.Punct, Text: ")"})
	head := len(l)
	for i := range many {
		l = append(l, api.Tok{Kind: api.Punct, Text: "#"}, word(many-1-i))
	}
	m, e := macro.Define(l)
	if e != api.OK || len(m.Params) != many || len(m.Body) != 2*many || macro.Param(m, "p100000") != 100000 || macro.Param(m, va) != many {
		t.Fatalf("%d, with %d parameters and %d tokens", e, len(m.Params), len(m.Body))
	}
	if again, e := define(macro.Print(m)); e != api.OK || !macro.Same(m, again) {
		t.Errorf("again: %d", e)
	}
	if _, e := macro.Define(append(l, api.Tok{Kind: api.Punct, Text: "#"}, word(many))); e != api.ErrHash {
		t.Errorf("with a name that is no parameter: %d", e)
	}
	l[head-2] = word(0)
	if _, e := macro.Define(l); e != api.ErrParams {
		t.Errorf("with two alike: %d", e)
	}
}

// R1: Same, Print and Param end, and tell, at what no Define tells.
func TestR1AnyMacro(t *testing.T) {
	var all []api.Macro
	for _, s := range textsUpTo([]string{"a", "V", "#", "$", "n"}, 3) {
		all = append(all, api.Macro{Name: va, Func: len(s) > 1, Variadic: len(s) > 2, Params: []string{va, s, s}, Body: toks(s)})
	}
	for _, m := range all {
		if !macro.Same(m, m) || macro.Param(m, va) != 0 || macro.Print(m) == "" {
			t.Errorf("%+v", m)
		}
	}
}

// R3: with an error every field of the macro is its zero value, whatever was read ahead of what is wrong.
func TestR3NothingWithAnError(t *testing.T) {
	for _, s := range manyLists() {
		m, e := macro.Define(toks(s))
		if e != api.OK && (m.Name != "" || m.Func || len(m.Params) != 0 || m.Variadic || len(m.Body) != 0) {
			t.Fatalf("Define of %q: %+v, %d", s, m, e)
		}
	}
}

// R4: a nil list and an empty one are the same, within macros too.
func TestR4NoTokens(t *testing.T) {
	for _, none := range [][]api.Tok{nil, {}} {
		if m, e := macro.Define(none); e != api.ErrName || !sameMacro(m, api.Macro{}) {
			t.Errorf("Define: %+v, %d", m, e)
		}
	}
	nils := api.Macro{Name: "F", Func: true}
	empty := api.Macro{Name: "F", Func: true, Params: []string{}, Body: []api.Tok{}}
	if !macro.Same(nils, empty) || !macro.Same(empty, nils) {
		t.Error("not the same")
	}
	if macro.Print(empty) != macro.Print(nils) || macro.Param(empty, "a") != -1 || macro.Param(nils, "a") != -1 {
		t.Error("Print, Param")
	}
}

// R5: what is handed in stays as it was, also what stands behind its end.
func TestR5NothingIsChanged(t *testing.T) {
	for _, s := range []string{"aAbaa", "a(a,b,.)A#a$vaa", "a(a)Aa$a", "a{A)1", "a(b,;", "D", "a(a)#ba", "aV1"} {
		whole := toks(s)
		for n := range whole {
			m, _ := macro.Define(whole[:n])
			_ = append(m.Body, api.Tok{Kind: -1, Text: "spoilt"})
			for i := range m.Body {
				m.Body[i] = api.Tok{Kind: -1, Text: "spoilt"}
			}
		}
		if !slices.Equal(whole, toks(s)) {
			t.Errorf("the list %q is now %v", s, whole)
		}
	}
	params := []string{"a", "b", "c"}
	m := api.Macro{Name: "F", Func: true, Params: params[:2], Variadic: true, Body: toks("A2")}
	macro.Print(m)
	macro.Same(m, m)
	macro.Param(m, va)
	if !slices.Equal(params, []string{"a", "b", "c"}) || !slices.Equal(m.Body, toks("A2")) {
		t.Errorf("the macro is now %+v, of %v", m, params)
	}
}

// R6: a call hangs on its arguments alone, so that an answer that is spoilt spoils no other, and an error leaves nothing behind.
func TestR6NothingIsKept(t *testing.T) {
	const s = "a(a,b,.)A#a$v"
	want, _ := told(s)
	l := toks(s)
	first, _ := macro.Define(l)
	second, _ := macro.Define(l)
	for i := range first.Params {
		first.Params[i] = "spoilt"
	}
	for i := range first.Body {
		first.Body[i] = api.Tok{Kind: -1}
	}
	for _, wrong := range []string{"", "a(a,", "a(.,", "aa", "a2$", "a(.)#", "a2v"} {
		if _, e := macro.Define(toks(wrong)); e == api.OK {
			t.Errorf("%q is fine", wrong)
		}
	}
	third, e := macro.Define(l)
	if e != api.OK || !sameMacro(second, want) || !sameMacro(third, want) {
		t.Errorf("told again: %+v and %+v, %d, not %+v", second, third, e, want)
	}
}
