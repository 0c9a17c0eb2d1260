package macro_test

import (
	"math"
	"slices"
	"strings"
	"testing"

	"emend/api"
	"emend/macro"
	"emend/pptok"
)

// outline is a macro, its Params with blanks between, and its Body printed.
type outline struct {
	name     string
	fun      bool
	params   string
	variadic bool
	body     string
}

func outlineOf(m api.Macro) outline {
	return outline{m.Name, m.Func, strings.Join(m.Params, " "), m.Variadic, pptok.Print(m.Body)}
}

func TestF1Plain(t *testing.T) {
	for _, x := range []struct{ text, name, body string }{
		{"X", "X", ""}, {" X ", "X", ""}, {"X // 1", "X", ""}, {"_", "_", ""}, {"if", "if", ""}, {"__VA_ARGS", "__VA_ARGS", ""}, {"definedX", "definedX", ""},
		{"X 1 + 2", "X", "1 + 2"}, {"X\t1/**/+2 //3", "X", "1 +2"}, {"X/**/+1", "X", "+1"}, {"X\\\nY \\\n1", "XY", "1"}, {"X X", "X", "X"}, {"X defined", "X", "defined"}, {"X 1.5e+3'x'\"y\"@", "X", "1.5e+3'x'\"y\"@"},
		{"F (a) a", "F", "(a) a"}, {"F (a, a) #b", "F", "(a, a) #b"}, {"F/**/(a", "F", "(a"}, {"X (", "X", "("}, {"X )", "X", ")"}, {"X ,(", "X", ",("}, {"X ...", "X", "..."},
		{"X #", "X", "#"}, {"X #b", "X", "#b"}, {"X # 1 # #", "X", "# 1 # #"}, {"X a#", "X", "a#"}, {"X #\"a\"", "X", "#\"a\""},
		{"X a##b", "X", "a##b"}, {"X a ## ## b", "X", "a ## ## b"}, {"X # ## #", "X", "# ## #"}, {"X a###b", "X", "a###b"},
		{"X \"##\"", "X", "\"##\""}, {"X '##'", "X", "'##'"}, {"X \"" + va + "\"", "X", "\"" + va + "\""}, {"X " + va + "_", "X", va + "_"}, {"X x" + va, "X", "x" + va},
	} {
		m, e := define(x.text)
		if want := (outline{name: x.name, body: x.body}); e != api.OK || outlineOf(m) != want {
			t.Errorf("Define of %q: %+v, %d, not %+v", x.text, outlineOf(m), e, want)
		}
	}
}

func TestF1WithParams(t *testing.T) {
	for _, x := range []struct {
		text, params string
		variadic     bool
		body         string
	}{
		{"F()", "", false, ""}, {"F( ) ", "", false, ""}, {"F\\\n(\\\n)", "", false, ""}, {"F()()", "", false, "()"}, {"F() (a,", "", false, "(a,"}, {"F()a", "", false, "a"}, {"F() F", "", false, "F"},
		{"F(a)", "a", false, ""}, {"F(a)a", "a", false, "a"}, {"F( a ) a", "a", false, "a"}, {"F(F) F", "F", false, "F"}, {"F(defined)", "defined", false, ""}, {"F(if)", "if", false, ""}, {"F(a) b", "a", false, "b"}, {"F(a) )", "a", false, ")"}, {"F(a) ...", "a", false, "..."},
		{"F(a, b) a##b", "a b", false, "a##b"}, {"F(b,a)", "b a", false, ""}, {"F(a ,b/**/,\\\nc , d) b", "a b c d", false, "b"}, {"F(a,aa,A,_)", "a aa A _", false, ""}, {"F(__VA_ARGS,__VA_ARGS___)", "__VA_ARGS __VA_ARGS___", false, ""},
		{"F(...)", "", true, ""}, {"F( ... )...", "", true, "..."}, {"F(a, ...)", "a", true, ""}, {"F(a,b ,...)a,b", "a b", true, "a,b"}, {"F(...) " + va, "", true, va}, {"F(a,...)" + va + " a", "a", true, va + " a"},
		{"F(a) #a", "a", false, "#a"}, {"F(a) # a", "a", false, "# a"}, {"F(a, b) #b#a", "a b", false, "#b#a"}, {"F(a)#a # a b", "a", false, "#a # a b"}, {"F(defined) #defined", "defined", false, "#defined"}, {"F(F) #F", "F", false, "#F"},
		{"F(...) #" + va, "", true, "#" + va}, {"F(a,...) # " + va + " #a", "a", true, "# " + va + " #a"}, {"F(a) #a##a", "a", false, "#a##a"}, {"F(a) a###a", "a", false, "a###a"}, {"F() '#'\"#\"", "", false, "'#'\"#\""},
		{"F(a) 1##a##2", "a", false, "1##a##2"}, {"F() a##b", "", false, "a##b"}, {"F(...) a ## " + va, "", true, "a ## " + va}, {"F(a) a ## ## a", "a", false, "a ## ## a"}, {"F(a) \"" + va + "\"", "a", false, "\"" + va + "\""},
	} {
		m, e := define(x.text)
		if want := (outline{"F", true, x.params, x.variadic, x.body}); e != api.OK || outlineOf(m) != want {
			t.Errorf("Define of %q: %+v, %d, not %+v", x.text, outlineOf(m), e, want)
		}
	}
}

func TestF1Wrong(t *testing.T) {
	for e, texts := range map[api.Errno][]string{
		60: {"", " ", "/* X */", "1", "1 X", ".5", "'x'", "\"X\"", "(", "(X", "#X", "##", "...", "@", "\\", "'", "\n", "\nX", "defined", "defined 1", "defined(a) a", va, va + " 1", va + "(a)"},
		61: {"F(", "F(a", "F(a,", "F(a,b", "F(...", "F(a,...", "F(,", "F( ",
			"F(a,)", "F(,)", "F(,a)", "F(,,a)", "F(a,,b)", "F(,...)", "F(...,)", "F(a,...,)", "F(a,,...)",
			"F(a a)", "F(a b)", "F(a b,c)", "F(a ...)", "F(a...)", "F(a,b...)", "F(... ...)", "F(......)",
			"F(a, a)", "F(a,b,a)", "F(b,a,a)", "F(a,a,...)", "F(defined,defined)",
			"F(__VA_ARGS__)", "F(a,__VA_ARGS__)", "F(__VA_ARGS__,a)", "F(__VA_ARGS__,...)", "F(...,__VA_ARGS__)",
			"F(..., a)", "F(a,...,b)", "F(...,...)", "F(...a)", "F(... a)", "F(...(",
			"F(1)", "F(\"a\")", "F('a')", "F(+)", "F(.)", "F(..)", "F(@)", "F(#a)", "F(##)", "F(\n)", "F(a\n)", "F(a,\nb)", "F((", "F((a))", "F(()", "F(a(", "F(a(b))", "F(a;b)", "F(a,1)", "F(1,a)", "F(a+)", "F(a]", "F(a}", "F(a;"},
		62: {"X+1", "X\"a\"", "X'a'", "X)", "X[a]", "X,", "X#", "X#b", "X##a", "X...", "X.5", "X@", "X\n", "X\n(a)", "X\\", "X##", "X{", "X\"(\""},
		63: {"X ## a", "X a ##", "X ##", "X ##a##", "X ## ##", "X a##b##", "F() ## a", "F()##", "F(a) a ##", "F(a)##a", "F(a) ##a##a", "F(...) ##", "F(...) " + va + "##", "F(a) #a##"},
		64: {"F(a) #b", "F(a) #", "F(a) a #", "F(a) # #a", "F(a) #1", "F(a) #\"a\"", "F(a) #'a'", "F(a) #(a)", "F(a) #@", "F(a) #\na", "F(a)#F", "F(a) #a #b", "F(a) #b #a", "F(a) a # ## a", "F(a) #defined", "F(a) #aa", "F(a) #A",
			"F() #a", "F() #", "F()#F", "F(...) #a", "F(...) #", "F(...) #...", "F(a,...) #b", "F(a,b) #c", "F(a) #__VA_ARGS__", "F() #__VA_ARGS__", "F(a) #" + va + "_", "F(...) #" + va + "_"},
		65: {"X __VA_ARGS__", "X 1 + __VA_ARGS__", "X #__VA_ARGS__", "X (...) __VA_ARGS__", "X a ## __VA_ARGS__", "X __VA_ARGS__ ## a", "F() __VA_ARGS__", "F(a) __VA_ARGS__", "F(a)a,__VA_ARGS__(", "F(a) #a __VA_ARGS__", "F(a) a##__VA_ARGS__"},
	} {
		for _, s := range texts {
			if m, got := define(s); got != e || !sameMacro(m, api.Macro{}) {
				t.Errorf("Define of %q: %+v, %d, not %d", s, m, got, e)
			}
		}
	}
}

// Of several things that are wrong, the one that F1 names first is told, wherever it stands.
func TestF1SeveralWrong(t *testing.T) {
	for _, x := range []struct {
		text string
		e    api.Errno
	}{
		{"1(a,) ## #b " + va, 60}, {"defined(", 60}, {va + "+ ##", 60}, {"\"X\"+", 60}, {"defined##", 60}, {"1 " + va, 60}, {"(a", 60},
		{"F(a,a) ## #b " + va, 61}, {"F(1) ##", 61}, {"F(a,) #b", 61}, {"F(" + va + ") " + va, 61}, {"F(## #", 61}, {"F(...,a) ##", 61},
		{"X## ##", 62}, {"X+##", 62}, {"X#" + va, 62}, {"X)" + va + " ##", 62}, {"X##" + va, 62},
		{"F(a) #b " + va + " ##", 63}, {"F(a) ## #b", 63}, {"F(a) " + va + " # ##", 63}, {"X ## " + va, 63}, {"X " + va + " ##", 63}, {"F()#a##", 63},
		{"F(a) " + va + " #b", 64}, {"F(a) #b " + va, 64}, {"F() " + va + "#", 64}, {"F(a) #a #" + va, 64},
	} {
		if m, e := define(x.text); e != x.e || !sameMacro(m, api.Macro{}) {
			t.Errorf("Define of %q: %+v, %d, not %d", x.text, m, e, x.e)
		}
	}
}

func TestF1AllShortLists(t *testing.T) {
	for _, s := range manyLists() {
		m, e := macro.Define(toks(s))
		if want, wrong := told(s); e != wrong || !sameMacro(m, want) {
			t.Fatalf("Define of %q: %+v, %d, not %+v, %d", s, m, e, want, wrong)
		}
	}
}

// Define is asked by tokens, which need be those of no text: a token is what its kind and its text say it is.
func TestF1TokensOfNoText(t *testing.T) {
	x := api.Tok{Kind: api.Ident, Text: "X", File: -1, From: 9, To: -2, Blank: true}
	open := api.Tok{Kind: api.Punct, Text: "(", From: math.MinInt}
	for _, kind := range []int{0, 2, 3, 4, 5, 6, 7, 8, -1, 256 + 1, 1<<32 + 1, math.MaxInt, math.MinInt} {
		for _, l := range [][]api.Tok{{{Kind: kind, Text: "X"}}, {{Kind: kind}}, {{Kind: kind, Text: "X"}, x}, {{Kind: kind, Text: "X"}, open}} {
			if m, e := macro.Define(l); e != api.ErrName || !sameMacro(m, api.Macro{}) {
				t.Errorf("Define of %v: %+v, %d", l, m, e)
			}
		}
		if m, e := macro.Define([]api.Tok{x, open, {Kind: kind, Text: "a"}, {Kind: api.Punct, Text: ")"}}); e != api.ErrParams || !sameMacro(m, api.Macro{}) {
			t.Errorf("Define with a parameter of the kind %d: %+v, %d", kind, m, e)
		}
		body := []api.Tok{{Kind: kind, Text: va, Blank: true}, {Kind: kind, Text: "a b\n"}}
		m, e := macro.Define(append([]api.Tok{x}, body...))
		body[0].Blank = false
		if e != api.OK || !sameMacro(m, api.Macro{Name: "X", Body: body}) {
			t.Errorf("Define with a body of the kind %d: %+v, %d", kind, m, e)
		}
	}
	for _, name := range []string{"", " ", "1", "(", "__va_args__", "Defined", "defined ", "\xff", "a\nb"} {
		l := []api.Tok{{Kind: api.Ident, Text: name}, open, {Kind: api.Ident, Text: name}, {Kind: api.Punct, Text: ")"}, {Kind: api.Punct, Text: "#"}, {Kind: api.Ident, Text: name, Blank: true}}
		if m, e := macro.Define(l); e != api.OK || !sameMacro(m, api.Macro{Name: name, Func: true, Params: []string{name}, Body: l[4:]}) {
			t.Errorf("Define of the name %q: %+v, %d", name, m, e)
		}
	}
}

// sample is a macro in which each thing stands that Same holds against another one's.
func sample() api.Macro {
	return api.Macro{Name: "F", Func: true, Params: []string{"a", "b", "c"}, Variadic: true, Body: []api.Tok{
		{Kind: api.Ident, Text: "a", File: 1, From: 20, To: 21},
		{Kind: api.Punct, Text: "+", File: 1, From: 22, To: 23, Blank: true},
		{Kind: api.Number, Text: "1", File: 1, From: 23, To: 24},
	}}
}

func TestF2OneThingOther(t *testing.T) {
	for what, change := range map[string]func(m *api.Macro){
		"Name":                  func(m *api.Macro) { m.Name = "G" },
		"Name's letters":        func(m *api.Macro) { m.Name = "f" },
		"no Name":               func(m *api.Macro) { m.Name = "" },
		"Func":                  func(m *api.Macro) { m.Func = false },
		"Variadic":              func(m *api.Macro) { m.Variadic = false },
		"a parameter":           func(m *api.Macro) { m.Params[1] = "d" },
		"the last parameter":    func(m *api.Macro) { m.Params[2] = "d" },
		"the parameters' order": func(m *api.Macro) { m.Params[0], m.Params[1] = "b", "a" },
		"a parameter more":      func(m *api.Macro) { m.Params = append(m.Params, "d") },
		"a parameter less":      func(m *api.Macro) { m.Params = m.Params[:2] },
		"no parameters":         func(m *api.Macro) { m.Params = nil },
		"a token more":          func(m *api.Macro) { m.Body = append(m.Body, api.Tok{}) },
		"a token less":          func(m *api.Macro) { m.Body = m.Body[:2] },
		"no tokens":             func(m *api.Macro) { m.Body = nil },
		"the tokens' order":     func(m *api.Macro) { m.Body[0], m.Body[2] = m.Body[2], m.Body[0] },
		"the first Kind":        func(m *api.Macro) { m.Body[0].Kind = api.Other },
		"the last Kind":         func(m *api.Macro) { m.Body[2].Kind = api.Other },
		"the first Text":        func(m *api.Macro) { m.Body[0].Text = "b" },
		"the last Text":         func(m *api.Macro) { m.Body[2].Text = "2" },
		"the second Blank":      func(m *api.Macro) { m.Body[1].Blank = false },
		"the last Blank":        func(m *api.Macro) { m.Body[2].Blank = true },
	} {
		m := sample()
		change(&m)
		if macro.Same(m, sample()) || macro.Same(sample(), m) {
			t.Errorf("the same with another one: %s", what)
		}
		if !macro.Same(m, m) {
			t.Errorf("not the same as itself: %s", what)
		}
	}
}

func TestF2WhatDoesNotMatter(t *testing.T) {
	m := sample()
	m.Body[0].Blank = true
	for i := range m.Body {
		m.Body[i].File, m.Body[i].From, m.Body[i].To = -i, 99*i, -7
	}
	if !macro.Same(m, sample()) || !macro.Same(sample(), m) {
		t.Error("the first Blank and places")
	}
	for _, x := range [][2]string{{"X 1 + 2", "X  1 +  2"}, {"F(a, b) a", "F( a,b )a"}, {"X", "X /**/"}, {"X 1", "  \\\nX/**/1 //2"}, {"F(...)a", "F(... ) a"}, {"X a b", "X a/* b */\\\n b"}} {
		a, e := define(x[0])
		b, f := define(x[1])
		if e != api.OK || f != api.OK || !macro.Same(a, b) {
			t.Errorf("%q and %q: %d, %d", x[0], x[1], e, f)
		}
	}
}

// Macros that need be those of no text: all of a few that differ in few things, each held against each.
func TestF2EachAgainstEach(t *testing.T) {
	var all []api.Macro
	for _, params := range [][]string{nil, {}, {"a"}, {"b"}, {"a", "b"}, {"b", "a"}, {"ab"}, {""}, {"", ""}, {va}} {
		for _, body := range []string{"", "a", "A", "s", "aa", "aA", "AA", "as", "ba", "a#", "a%", "#a", "$", "n"} {
			for _, name := range []string{"F", "", "a"} {
				m := api.Macro{Name: name, Params: params, Body: toks(body)}
				all = append(all, m)
				m.Func = true
				all = append(all, m)
				m.Variadic = true
				all = append(all, m)
			}
		}
	}
	for _, a := range all {
		for _, b := range all {
			if got, want := macro.Same(a, b), shown(a) == shown(b); got != want {
				t.Fatalf("Same of %+v and %+v: %v", a, b, got)
			}
		}
	}
}

func TestF3Print(t *testing.T) {
	for _, x := range []struct {
		m    api.Macro
		want string
	}{
		{api.Macro{}, ""},
		{api.Macro{Name: "X"}, "X"},
		{api.Macro{Name: "X", Params: []string{}, Body: []api.Tok{}}, "X"},
		{api.Macro{Name: "X", Body: toks("1")}, "X 1"},
		{api.Macro{Name: "X", Body: toks("2")}, "X 1"},
		{api.Macro{Name: "X", Body: toks("22")}, "X 1 1"},
		{api.Macro{Name: "X", Body: toks("1#12%q")}, "X 1#1 1 # 'x'"},
		{api.Macro{Name: "X", Body: toks("(a)")}, "X (a)"},
		{api.Macro{Name: "X", Body: []api.Tok{{}}}, "X "},
		{api.Macro{Name: "X", Body: []api.Tok{{Blank: true}, {Blank: true}}}, "X  "},
		{api.Macro{Name: "X", Body: toks("nan")}, "X \na\n"},
		{api.Macro{Name: "X", Params: []string{"a"}, Variadic: true}, "X"},
		{api.Macro{Name: "X", Params: []string{"a"}, Variadic: true, Body: toks("a")}, "X a"},
		{api.Macro{Func: true}, "()"},
		{api.Macro{Name: "F", Func: true}, "F()"},
		{api.Macro{Name: "F", Func: true, Body: toks("Ab")}, "F() ab"},
		{api.Macro{Name: "F", Func: true, Params: []string{"a"}}, "F(a)"},
		{api.Macro{Name: "F", Func: true, Params: []string{"b", "a", ""}, Body: toks("b$A")}, "F(b, a, ) b## a"},
		{api.Macro{Name: "F", Func: true, Variadic: true}, "F(...)"},
		{api.Macro{Name: "F", Func: true, Variadic: true, Body: toks("{v")}, "F(...) (" + va},
		{api.Macro{Name: "F", Func: true, Variadic: true, Params: []string{"a"}}, "F(a, ...)"},
		{api.Macro{Name: "F", Func: true, Variadic: true, Params: []string{"a", "b"}, Body: toks("aVb")}, "F(a, b, ...) a " + va + "b"},
		{api.Macro{Name: "\xff\n", Func: true, Params: []string{", ", "\x00"}}, "\xff\n(, , \x00)"},
	} {
		if got := macro.Print(x.m); got != x.want {
			t.Errorf("Print of %+v: %q, not %q", x.m, got, x.want)
		}
	}
}

func TestF3Param(t *testing.T) {
	many := make([]string, 300)
	for i := range many {
		many[i] = strings.Repeat("p", i+1)
	}
	for _, x := range []struct {
		m    api.Macro
		want map[string]int
	}{
		{api.Macro{}, map[string]int{"": -1, "a": -1, va: -1}},
		{api.Macro{Name: "a", Body: toks("b")}, map[string]int{"a": -1, "b": -1, va: -1}},
		{api.Macro{Variadic: true}, map[string]int{"": -1, "...": -1, "a": -1, va: 0}},
		{api.Macro{Name: "F", Func: true, Params: []string{"a", "b", "c"}}, map[string]int{"a": 0, "b": 1, "c": 2, "d": -1, "A": -1, "ab": -1, "": -1, "F": -1, va: -1}},
		{api.Macro{Name: "F", Func: true, Params: []string{"b", "a"}, Variadic: true}, map[string]int{"b": 0, "a": 1, va: 2, "...": -1, "__VA_ARGS": -1, va + " ": -1, "__va_args__": -1, "": -1, "c": -1}},
		{api.Macro{Params: []string{"a", ""}}, map[string]int{"a": 0, "": 1, va: -1}},
		{api.Macro{Func: true, Variadic: true, Params: many}, map[string]int{"p": 0, many[149]: 149, many[299]: 299, many[299] + "p": -1, va: 300}},
	} {
		for name, want := range x.want {
			if got := macro.Param(x.m, name); got != want {
				t.Errorf("Param of %+v, %q: %d, not %d", x.m, name, got, want)
			}
		}
	}
}

// What was defined is printed and defined again: the same, and it is printed alike.
func TestF4PrintedAndDefinedAgain(t *testing.T) {
	pieces := []string{"F", "(", "a", ",", "...", ")", " ", "#", "##", va, "/**/", "1"}
	texts := textsUpTo(pieces, 4)
	for _, begins := range []string{"F(a)", "F(a, b)", "F()", "F(...)", "F( b,a , ...)", "X ", "X/**/", "F(", "F(a,"} {
		texts = append(texts, behind(begins, textsUpTo(append(pieces, "b", "'x'", "\"y\"", "+", ")"), 3))...)
	}
	fine := 0
	for _, s := range texts {
		m, e := define(s)
		if e != api.OK {
			continue
		}
		fine++
		out := macro.Print(m)
		again, e := define(out)
		if e != api.OK || !macro.Same(m, again) || !macro.Same(again, m) || shown(m) != shown(again) || macro.Print(again) != out {
			t.Fatalf("%q is printed %q, and that is %+v, %d, not %+v", s, out, again, e, m)
		}
	}
	if fine < 5000 {
		t.Errorf("only %d are defined", fine)
	}
}

// Each parameter is found at its place, and what Define asks of a `#` is what Param tells.
func TestF4Params(t *testing.T) {
	for _, x := range []string{"F()", "F(a)", "F(a, b)", "F(b, a)", "F(...)", "F(a, ...)", "F(c, b, a, ...)"} {
		m, e := define(x)
		if e != api.OK {
			t.Fatalf("%q: %d", x, e)
		}
		names := slices.Concat(m.Params, []string{va})
		for i, name := range names {
			want := i
			if name == va && !m.Variadic {
				want = -1
			}
			if got := macro.Param(m, name); got != want {
				t.Errorf("%q: %q is at %d, not %d", x, name, got, want)
			}
		}
		for _, name := range append(names, "a", "b", "c", "d", "F") {
			_, e := define(x + " #" + name)
			if (e == api.OK) != (macro.Param(m, name) >= 0) {
				t.Errorf("%q with #%s: %d", x, name, e)
			}
		}
	}
}
