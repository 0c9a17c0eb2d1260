package presence_test

import (
	"slices"
	"strings"
	"testing"

	"emend/api"
	"emend/bdd"
	"emend/presence"
)

// As many names as the arena has, and a line that begins a branch: whatever else is wrong, and whatever is asked.
func TestL2ErrArg(t *testing.T) {
	lines := linesOf("#else", "#ifdef A", "#ifndef A", "#if A", "#elif A", "#ifdef", "#if C", "#if 1/0", "#if")
	for vars := range 9 {
		a := arena(t, vars)
		for n := range 9 {
			for _, l := range lines {
				for _, asked := range []has{make(has, 1<<vars), all(vars)} {
					got, e := presence.Cond(a, first(n), l, node(t, a, asked))
					if (e == api.ErrArg) != (n != vars) || e == api.ErrArg && got != 0 {
						t.Errorf("%d names of %d, %+v, %s: %d, %d", n, vars, l, asked.shown(), got, e)
					}
				}
			}
		}
	}
	a := arena(t, 2)
	for _, kind := range []int{api.Text, api.Endif, api.Define, api.Undef, api.Include, api.Error, api.Pragma, api.LineNo, api.Null, api.Unknown, 0, -1, -2, -6, 16, 99, 256 + api.If, 1<<32 + api.Else, 1<<63 - 1, -1 << 63} {
		for _, l := range lines {
			l.Kind = kind
			every(2, func(asked has) {
				if got, e := presence.Cond(a, first(2), l, node(t, a, asked)); got != 0 || e != api.ErrArg {
					t.Errorf("kind %d, %s: %d, %d", kind, asked.shown(), got, e)
				}
			})
		}
	}
	fails(t, api.ErrArg, "#endif", "x", "", "#", "#foo", "#define A", "#undef A", "#include \"A\"", "#error", "#pragma if", "#line 1", "if A", "x #if A")
}

// Where nothing is asked nothing holds, and nothing else is wrong.
func TestL2NothingAsked(t *testing.T) {
	for _, text := range []string{"#else", "#else x", "#ifdef A", "#ifdef", "#ifdef A B", "#ifdef 1", "#ifdef C", "#ifndef B", "#ifndef", "#ifndef C", "#if 1", "#if 0", "#if A", "#if", "#if C", "#if 1/0", "#if 08", "#if 1 << 64", "#if defined", "#if (", "#elif 1", "#elif C", "#elif", "#elif 1/0", "#if " + strings.Repeat("A + ", 2000) + "A"} {
		for vars := range 9 {
			if got, e := same(t, vars, text, make(has, 1<<vars)); got != "none" || e != api.OK {
				t.Errorf("%d names, %q: %s, %d", vars, text, got, e)
			}
		}
	}
}

func TestL2Else(t *testing.T) {
	for _, text := range []string{"#else", "#else x", "#else C 1/0", "# /**/ else //", "#else defined"} {
		for vars := range 4 {
			every(vars, func(asked has) {
				if got, e := same(t, vars, text, asked); got != asked.shown() || e != api.OK {
					t.Errorf("%d names, %q, asked %s: %s, %d", vars, text, asked.shown(), got, e)
				}
			})
		}
	}
	a := arena(t, 3)
	every(3, func(asked has) {
		n := node(t, a, asked)
		if got, e := presence.Cond(a, first(3), linesOf("#else")[0], n); got != n || e != api.OK {
			t.Errorf("asked %s: %d, %d, not %d", asked.shown(), got, e, n)
		}
	})
}

func TestL2Ifdef(t *testing.T) {
	for _, word := range []string{"#ifdef", "#ifndef", "# /* A */ ifdef", "#ifn\\\ndef"} {
		fails(t, api.ErrName, word, word+" A B", word+" A A", word+" A 1", word+" 1", word+" +", word+" \"A\"", word+" 'A'", word+" (A)", word+" ! A", word+" @", word+" defined A", word+" C D", word+" C 1", word+" 1A", word+" ...")
		fails(t, api.ErrMixed, word+" C", word+" a", word+" AB", word+" defined", word+" __VA_ARGS__", word+" A_", word+" ifdef", word+" C // A")
	}
	holds(t, "1 3", "#ifdef A", "#ifdef A // B", "#ifdef /* B */ A", "# ifdef A")
	holds(t, "2 3", "#ifdef B", "#ifdef B /* 1 */")
	holds(t, "0 2", "#ifndef A", "#ifndef\tA")
	holds(t, "0 1", "#ifndef B")
	for vars := range 9 {
		for i, name := range first(8) {
			for word, in := range map[string]bool{"#ifdef ": true, "#ifndef ": false} {
				want := all(vars)
				for set := range want {
					want[set] = (set>>i&1 == 1) == in
				}
				got, e := same(t, vars, word+name, all(vars))
				if i < vars && (got != want.shown() || e != api.OK) || i >= vars && e != api.ErrMixed {
					t.Errorf("%d names, %q: %s, %d", vars, word+name, got, e)
				}
			}
		}
	}
}

// The names are those that are handed in, in their order, and no others.
func TestL2Names(t *testing.T) {
	a := arena(t, 3)
	names := []string{"z", "_9", "A"}
	for text, want := range map[string][]int{"#ifdef z": {1, 3, 5, 7}, "#ifdef _9": {2, 3, 6, 7}, "#ifndef A": {0, 1, 2, 3}, "#if A && !z": {4, 6}, "#elif defined(_9) + defined z > 1": {3, 7}} {
		n, e := presence.Cond(a, names, linesOf(text)[0], 1)
		if got := presence.Where(a, n); !slices.Equal(got, want) || e != api.OK {
			t.Errorf("%q: %v, %d", text, got, e)
		}
	}
	for _, text := range []string{"#ifdef B", "#ifdef Z", "#if B", "#if A + a", "#if defined _"} {
		if n, e := presence.Cond(a, names, linesOf(text)[0], 1); n != 0 || e != api.ErrMixed {
			t.Errorf("%q: %d, %d", text, n, e)
		}
	}
}

// A name that is none of the names is told wherever it stands, asked for or not, and ahead of all else that is wrong with the line.
func TestL2Mixed(t *testing.T) {
	for _, word := range []string{"#if ", "#elif "} {
		fails(t, api.ErrMixed, word+"C", word+"defined C", word+"defined(C)", word+"!defined C", word+"1 + C", word+"C + 1", word+"((C))", word+"0 && C", word+"1 || C", word+"A && C", word+"1 ? A : C", word+"0 ? defined C : B", word+"a", word+"AB", word+"__VA_ARGS__", word+"defined __VA_ARGS__", word+"defined_", word+"Defined A", word+"if", word+"A(C)", word+"L'a'")
		fails(t, api.ErrMixed, word+"1/0 + C", word+"C 08", word+"C +", word+"defined + C", word+"defined defined C", word+") C", word+"1 << 64 || C", word+"\"C\" C", word+"@ C")
		holds(t, "none", word+"0 // C", word+"0 /* C */")
		holds(t, "all", word+"'C'", word+"0x0C", word+"1 // C")
		fails(t, api.ErrExpr, word+"\"C\"")
	}
	holds(t, "1 3", "#if A // C", "#elif A /* + C */")
}

func TestL2Values(t *testing.T) {
	for _, word := range []string{"#if ", "#elif ", "# /**/ if ", "#el\\\nif "} {
		holds(t, "all", word+"1", word+"2", word+"-1", word+"A || 1", word+"!(A && 0)", word+"A == A", word+"defined A || !A", word+"'a' == 97", word+"1 << 63", word+"A + 1", word+"A - B + 2")
		holds(t, "none", word+"0", word+"A && 0", word+"A && !A", word+"A != defined(A)", word+"A > 1", word+"1 - 1", word+"A + B > 2", word+"0 / 1", word+"'\\0'", word+"1 << 63 << 1")
		holds(t, "1 3", word+"A", word+"defined A", word+"defined(A)", word+"defined ( A )", word+"(A)", word+"A == 1", word+"!!A", word+"A > 0", word+"-A", word+"0 || A", word+"1 && A", word+"A && 1", word+"A * 7", word+"B * 0 + A", word+"A ? 1 : 0", word+"1 ? A : B")
		holds(t, "2 3", word+"B", word+"!!defined B", word+"0 ? A : B")
		holds(t, "0 2", word+"!A", word+"!defined A", word+"A == 0", word+"1 - A", word+"A < 1", word+"A ? 0 : 1")
		holds(t, "3", word+"A && B", word+"A & B", word+"A + B > 1", word+"A * B", word+"A + B == 2", word+"defined(A) * defined B")
		holds(t, "1 2 3", word+"A || B", word+"A | B", word+"A + B", word+"defined A || B")
		holds(t, "1 2", word+"A ^ B", word+"A != B", word+"A - B", word+"A ? !B : B")
		holds(t, "0 3", word+"A == B")
		holds(t, "1", word+"A && !B", word+"A > B", word+"A && !defined B")
		holds(t, "0 2 3", word+"A <= B")
	}
	// Of two one behind the other one stays, as the document has it.
	holds(t, "none", "#if defined defined", "#if defined(defined)", "#if defined defined && A")
	holds(t, "1 3", "#if defined defined || A")
}

// Where a set's condition has no value it matters which sets are asked, and which of them is the least.
func TestL2Errors(t *testing.T) {
	of := func(e api.Errno, texts ...string) {
		for _, text := range texts {
			fails(t, e, "#if "+text, "#elif "+text, "#if 1 && ("+text+")")
		}
	}
	// Of all sets.
	fails(t, api.ErrExpr, "#if", "#elif", "#if // A")
	of(api.ErrExpr, "defined", "defined 1", "defined +", "defined (", "defined(A", "defined(1)", "defined()", "1 +", "A B", "A +", "(A", "A = 1", "A, B", "\"s\"", "A(B)", "@", "A ? B", "defined A B", "A defined", "defined + 08", "1/0 defined", "08 +", "#", "defined \"A\"")
	of(api.ErrNumber, "08", "1.5", "'ab'", "0x", "1A", "9223372036854775808", "A + 08", "1/0 + 08", "1 || 08", "0 && 08", "A ? 08 : 1", "1 << 64 << 08")
	of(api.ErrZero, "1/0", "1 % 0", "A / 0", "0 || 1/0", "A / (B && !B)", "1/0 << 64")
	of(api.ErrShift, "1 << 64", "1 >> -1", "A << 64", "(1 << 64) / 0", "1 >> (A - 2)")
	// Of one set alone.
	of(api.ErrZero, "1 / A", "1 / B", "1 % (1 - A)", "A && 1 / B", "1 / (A + B)", "1 / (2 - A - B)", "A && B && 1 / 0", "1 / defined A", "1 / !defined B")
	of(api.ErrShift, "1 << (A * 64)", "1 >> -B", "1 << 63 + A", "A && B && 1 << 64")
	// What is told is that of the least set.
	of(api.ErrZero, "A ? 1 << 64 : 1 / B", "A ? 1 / 0 : B ? 1 << 64 : 1", "B ? 1 << 64 : 1 / A", "A || B ? A && B ? 1 << 64 : 1 / 0 : 1")
	of(api.ErrShift, "A ? 1 / 0 : 1 << 64", "A ? 1 << 64 : B ? 1 / 0 : 1", "B ? 1 / 0 : 1 << 64 * !A", "A && B ? 1 / 0 : A || B ? 1 << -1 : 1")
}

// Only sets that are asked for are worked out, in their order.
func TestL2ErrorsWhereAsked(t *testing.T) {
	came := map[api.Errno]int{}
	for _, text := range []string{"1 / A", "1 / B", "1 / (A && B)", "1 / (A || B)", "1 << 64 * A", "A ? 1 << 64 : 1 / B", "A ? 1 / B : 1 << 64", "A ? B ? 1 / 0 : 1 << 64 : B", "A ? B : B ? 1 / 0 : 1 << 64", "B ? A ? 1 / 0 : 1 << 64 : A", "A == B ? 1 << 64 : 1 / 0", "A == B ? 1 / (A - 1) : 1 << 64", "08 + A", "defined", "1 / 0", "A", "!(A + B)", "C", ""} {
		for _, word := range []string{"#if ", "#elif "} {
			every(2, func(asked has) {
				_, e := same(t, 2, word+text, asked)
				came[e]++
			})
		}
	}
	for _, e := range []api.Errno{api.OK, api.ErrExpr, api.ErrNumber, api.ErrZero, api.ErrShift, api.ErrMixed} {
		if came[e] < 20 {
			t.Errorf("error %d came %d times", e, came[e])
		}
	}
	// A greater set without a name that the line has may come ahead of a lesser one with it.
	asked := has{false, true, true, false}
	for text, want := range map[string]api.Errno{"#if A ? 1 / 0 : 1 << 64": api.ErrZero, "#if B ? 1 / 0 : 1 << 64": api.ErrShift} {
		if _, e := same(t, 2, text, asked); e != want {
			t.Errorf("%q: %d, not %d", text, e, want)
		}
	}
}

// All conditions that may be asked, of lines of all kinds, with two names and with three.
func TestL2AllAsked(t *testing.T) {
	for _, text := range []string{"#else", "#ifdef A", "#ifndef B", "#if 1", "#if 0", "#if A", "#elif A == B", "#if A && !defined B", "#if defined(A) || B", "#elif A + B * 2 > 1", "#ifdef C", "#if C", "#if A || !C", "#if A + B + C == 2", "#elif 1 / (A + B + C)", "#if C ? 1 / A : 1 << B * 64", "#if A && B && C", "#if A ? B : C"} {
		for vars := 2; vars <= 3; vars++ {
			every(vars, func(asked has) {
				got, e := same(t, vars, text, asked)
				if e == api.OK && got == "all" && !asked[0] {
					t.Errorf("%d names, %q, asked %s: %s", vars, text, asked.shown(), got)
				}
			})
		}
	}
}

// Without names there is one set, and with eight there are 256.
func TestL2NoneAndEight(t *testing.T) {
	for text, want := range map[string]string{"#if 1": "all", "#if 0": "none", "#elif 2 > 1": "all", "#else": "all", "#if defined defined": "none"} {
		if got, e := same(t, 0, text, all(0)); got != want || e != api.OK {
			t.Errorf("%q: %s, %d", text, got, e)
		}
	}
	for text, want := range map[string]api.Errno{"#if A": api.ErrMixed, "#ifdef A": api.ErrMixed, "#ifndef": api.ErrName, "#if 1/0": api.ErrZero, "#if": api.ErrExpr} {
		if _, e := same(t, 0, text, all(0)); e != want {
			t.Errorf("%q: %d", text, e)
		}
	}
	for _, text := range []string{"#if H", "#if A && H", "#if A + B + C + D + E + F + G + H == 4", "#elif defined A && !defined(C) || E * F == G ^ H", "#if (A << 7 | B << 6 | C << 5 | D << 4 | E << 3 | F << 2 | G << 1 | H) % 3 == 1", "#if 1 / (A + B + C + D + E + F + G + H - 5)", "#ifdef D", "#ifndef H", "#else"} {
		for _, asked := range []int{1, 2, 3, 10, 255} {
			h := all(8)
			for set := range h {
				h[set] = set%asked == asked/2
			}
			same(t, 8, text, h)
		}
	}
}

// Names are replaced before the value is asked for, and so many tokens at most, as expand tells.
func TestL2Steps(t *testing.T) {
	for text, want := range map[string]api.Errno{
		"#if B" + strings.Repeat(" + A", 999):           api.OK,
		"#if A" + strings.Repeat(" + A", 999):           api.OK,
		"#if 0" + strings.Repeat(" + A", 1001):          api.ErrSteps,
		"#if 0" + strings.Repeat(" + defined(A)", 1500): api.OK,
		"#if 1" + strings.Repeat(" + 1", 1999):          api.OK,
		"#if 1" + strings.Repeat(" + 1", 2000):          api.ErrSteps,
		"#if " + strings.Repeat("( ", 4000) + "1":       api.ErrSteps,
	} {
		if _, e := same(t, 2, text, all(2)); e != want {
			t.Errorf("%.20q: %d, not %d", text, e, want)
		}
	}
	if got, e := same(t, 2, "#if 1"+strings.Repeat(" + A", 1001), has{true, false, true, false}); got != "0 2" || e != api.OK {
		t.Errorf("where the name is not: %s, %d", got, e)
	}
}

// A line's tokens are taken as they are handed in, wherever they come from.
func TestL2TokensAsTheyAre(t *testing.T) {
	name, end := api.Tok{Kind: api.Ident, Text: "A"}, api.Tok{Kind: api.Newline, Text: "\n"}
	one := api.Tok{Kind: api.Number, Text: "1", File: -1}
	a := arena(t, 1)
	x, _ := a.Var(0)
	not, _ := a.Not(x)
	for _, c := range []struct {
		kind int
		toks []api.Tok
		want bdd.Node
		e    api.Errno
	}{
		{api.Ifdef, []api.Tok{name}, x, api.OK},
		{api.Ifndef, []api.Tok{name}, not, api.OK},
		{api.Ifdef, []api.Tok{name, end}, 0, api.ErrName},
		{api.Ifndef, []api.Tok{end, name}, 0, api.ErrName},
		{api.Ifdef, []api.Tok{end}, 0, api.ErrName},
		{api.Ifdef, []api.Tok{{Kind: api.Str, Text: "A"}}, 0, api.ErrName},
		{api.Ifdef, []api.Tok{{Kind: api.Ident, Text: "B", File: 3}}, 0, api.ErrMixed},
		{api.If, []api.Tok{end, name, end}, x, api.OK},
		{api.Elif, []api.Tok{{Kind: api.Punct, Text: "!", Blank: true}, name}, not, api.OK},
		{api.If, []api.Tok{one, end}, 1, api.OK},
		{api.If, []api.Tok{end}, 0, api.ErrExpr},
		{api.Elif, []api.Tok{{Kind: api.Str, Text: "B"}}, 0, api.ErrExpr},
		{api.If, []api.Tok{{Kind: api.Other, Text: "defined"}, name}, 0, api.ErrExpr},
		{api.Else, []api.Tok{name, end, one}, 1, api.OK},
	} {
		// What a line has beside its kind and its tokens doesn't matter.
		for _, l := range []api.Line{{Kind: c.kind, Toks: c.toks}, {Kind: c.kind, First: 7, N: -2, Toks: c.toks}} {
			if got, e := presence.Cond(a, first(1), l, 1); got != c.want || e != c.e {
				t.Errorf("%+v: %d, %d, not %d, %d", l, got, e, c.want, c.e)
			}
		}
	}
}
