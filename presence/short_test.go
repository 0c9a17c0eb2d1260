package presence_test

import (
	"math/rand/v2"
	"slices"
	"strconv"
	"strings"
	"testing"

	"emend/api"
	"emend/cond"
	"emend/direct"
	"emend/pptok"
	"emend/presence"
	"emend/unit"
	"emend/world"
)

// came counts how often each error came.
type came map[api.Errno]int

// atLeast checks that errors came often enough for something to be seen of them.
func (c came) atLeast(t *testing.T, n int, all ...api.Errno) {
	t.Helper()
	for _, e := range all {
		if c[e] < n {
			t.Errorf("error %d came %d times", e, c[e])
		}
	}
}

// All short lists of lines of conditionals, right and wrong.
func TestShortLists(t *testing.T) {
	t.Parallel()
	lines := []string{"x", "#if A", "#ifdef B", "#ifndef", "#if 1 / A", "#elif B", "#elif C", "#elif !A", "#else", "#endif"}
	n := came{}
	listsUpTo(5, lines, func(l []string) {
		if len(l) == 5 && l[4] != "#endif" && l[4] != "x" {
			return // it would be open, or wrong as a shorter one is
		}
		_, _, e := sameLines(t, 2, l)
		n[e]++
	})
	n.atLeast(t, 100, api.OK, api.ErrElse, api.ErrOpen, api.ErrName, api.ErrZero, api.ErrMixed)
}

// All short lists of a conditional's branches, of which each line asks for both names.
func TestShortBranches(t *testing.T) {
	t.Parallel()
	asks := []string{"1", "0", "A", "B", "!A", "A == B", "A && !B", "A || B", "1 / A", "B << 64", "A ? 1 / B : 1 << 64", "C"}
	n := came{}
	listsUpTo(3, asks, func(l []string) {
		texts := []string{"x"}
		for i, ask := range l {
			word := "#elif "
			if i == 0 {
				word = "#if "
			}
			texts = append(texts, word+ask, strconv.Itoa(i))
		}
		if len(l) > 0 {
			texts = append(texts, "#else", "z", "#endif")
		}
		_, _, e := sameLines(t, 2, texts)
		n[e]++
	})
	n.atLeast(t, 50, api.OK, api.ErrZero, api.ErrShift, api.ErrMixed)
}

// All short lists of bits of a condition, for every set that may be asked.
func TestShortConditions(t *testing.T) {
	t.Parallel()
	all := []string{"A", "B", "C", "defined", "(", ")", "&&", "/", "1", "0", "<< 64", "08", "!"}
	n := came{}
	listsUpTo(3, all, func(l []string) {
		for _, word := range []string{"#if ", "#ifdef ", "#ifndef "} {
			for _, asked := range []has{{true, true, true, true}, {false, true, true, false}, {false, false, true, false}} {
				_, e := same(t, 2, word+strings.Join(l, " "), asked)
				n[e]++
			}
		}
	})
	n.atLeast(t, 5, api.OK, api.ErrName, api.ErrExpr, api.ErrNumber, api.ErrZero, api.ErrShift, api.ErrMixed)
}

// lines of texts that are grown: most of them are fine, wherever they stand.
var (
	fine        = []string{"x", "x + y", "1", "", "y // B", "( z )", "\"s\"", "/* x */ y"}
	asks        = []string{"if 1", "if 0", "if A", "if !B", "if A == B", "ifdef A", "ifndef A", "ifdef B", "ifdef D", "if defined A && B == 1", "if defined(B) || A", "if A + B + D > 1", "if D ? A : B", "ifndef D"}
	wrongAsks   = []string{"if 1/0", "if 08", "if", "ifdef", "ifdef A B", "ifndef 1", "if defined", "if C", "ifdef C", "if 1 / D", "if D ? 1 << 64 : A", "if A == B ? 1 / D : A"}
	orAsks      = []string{"elif 1", "elif 0", "elif A", "elif !B", "elif D", "elif defined D || A", "elif A && B", "elif !D"}
	wrongOrAsks = []string{"elif 1/0", "elif 1 << 64", "elif 08", "elif", "elif C", "elif 1 / A", "elif 1 / D", "elif B << 64 * D"}
)

// of is one of texts, seldom one of those that may be wrong.
func of(r *rand.Rand, fine, wrong []string) string {
	if r.IntN(40) == 0 {
		fine = wrong
	}
	return fine[r.IntN(len(fine))]
}

// grown are lines, most of whose conditionals have an end; each branch begins with a line of text.
func grown(r *rand.Rand, most, depth int) []string {
	var out []string
	add := func(l ...string) { out = append(out, l...) }
	for range r.IntN(most) {
		if depth > 3 || r.IntN(3) > 0 {
			add(fine[r.IntN(len(fine))])
			continue
		}
		add("#"+of(r, asks, wrongAsks), "b")
		add(grown(r, 4, depth+1)...)
		for range r.IntN(3) {
			add("#"+of(r, orAsks, wrongOrAsks), "b")
			add(grown(r, 4, depth+1)...)
		}
		if r.IntN(2) == 0 {
			add("#else", "b")
			add(grown(r, 4, depth+1)...)
		}
		if r.IntN(100) > 0 {
			add("#endif")
		}
	}
	return out
}

// grownNames are what grown texts ask for: the names of the arena, as told texts have them.
var grownNames = []string{"A", "B", "D"}

// Longer texts, with three names.
func TestGrownTexts(t *testing.T) {
	t.Parallel()
	r := rand.New(rand.NewPCG(12, 3))
	n, lines := came{}, 0
	for range 2500 {
		texts := grown(r, 12, 0)
		a := arena(t, 3)
		nodes, line, e := presence.Lines(a, grownNames, linesOf(texts...))
		want, wantLine, f := toldLines(grownNames, texts)
		if e != f || line != wantLine || len(nodes) != len(want) {
			t.Fatalf("%q: %d conditions, %d, %d, not %d, %d, %d", texts, len(nodes), line, e, len(want), wantLine, f)
		}
		for i, n := range nodes {
			if got := hasOf(t, a, n); !slices.Equal(got, want[i]) {
				t.Fatalf("%q: line %d: %s, not %s", texts, i, got.shown(), want[i].shown())
			}
		}
		n[e]++
		lines += len(nodes)
	}
	n.atLeast(t, 5, api.OK, api.ErrOpen, api.ErrName, api.ErrExpr, api.ErrNumber, api.ErrZero, api.ErrShift, api.ErrMixed)
	n.atLeast(t, 1200, api.OK)
	if lines < 12000 {
		t.Errorf("%d lines in all", lines)
	}
}

// branchesRead checks of each conditional which has an Else that each set reads just one of its branches, if it reads the conditional, and else none.
func branchesRead(t *testing.T, told []has, lines []api.Line, items []api.Item) (checked int) {
	t.Helper()
	for _, x := range items {
		if len(x.Branches) == 0 {
			continue
		}
		last := x.Branches[len(x.Branches)-1]
		for set, reads := range told[x.Line] {
			n := 0
			for _, b := range x.Branches {
				if told[b.Items[0].Line][set] {
					n++
				}
			}
			if lines[last.Line].Kind == api.Else && (n == 1) != reads || n > 1 || n > 0 && !reads {
				t.Fatalf("the conditional from line %d on: %d branches for %d", x.Line, n, set)
			}
		}
		if lines[last.Line].Kind == api.Else {
			checked++
		}
		for _, b := range x.Branches {
			checked += branchesRead(t, told, lines, b.Items)
		}
	}
	return checked
}

func TestL4JustOneBranch(t *testing.T) {
	t.Parallel()
	r := rand.New(rand.NewPCG(12, 4))
	checked := 0
	for range 2000 {
		lines := linesOf(grown(r, 15, 0)...)
		a := arena(t, 3)
		nodes, _, e := presence.Lines(a, grownNames, lines)
		if e != api.OK {
			continue
		}
		var told []has
		for _, n := range nodes {
			told = append(told, hasOf(t, a, n))
		}
		items, _, _ := cond.Parse(lines)
		checked += branchesRead(t, told, lines, items)
	}
	if checked < 1500 {
		t.Errorf("%d conditionals", checked)
	}
}

// The tokens of the lines that are read are what unit tells of the file; where Lines has an error of a condition that is asked, some set has it there.
func TestL4WhatUnitTells(t *testing.T) {
	t.Parallel()
	r := rand.New(rand.NewPCG(12, 5))
	n, tokens := came{}, 0
	for range 1500 {
		text := strings.Join(grown(r, 12, 0), "\n")
		lines := direct.Lines(pptok.Tokens(0, text))
		a := arena(t, 3)
		nodes, line, e := presence.Lines(a, grownNames, lines)
		n[e]++
		shown := false
		for set := range 8 {
			defs, _ := world.Defs(grownNames, set)
			l, f := unit.Run([]api.File{{Path: "a", Text: text}}, "a", defs)
			shown = shown || f == api.Fault{Line: line, E: e}
			if e != api.OK {
				continue
			}
			var want []api.Tok
			for i, x := range nodes {
				if h, _ := a.Holds(x, set); h && lines[i].Kind == api.Text {
					want = append(want, lines[i].Toks...)
				}
			}
			if f != (api.Fault{}) || !slices.EqualFunc(l, want, func(x, y api.Tok) bool {
				x.Blank = y.Blank // of which a line end counts as one
				return x == y
			}) {
				t.Fatalf("%q with %q: %v, %v, not %v", text, defs, l, f, want)
			}
			tokens += len(l)
		}
		if !shown && e != api.ErrMixed {
			t.Fatalf("%q: %d at line %d, which no set has", text, e, line)
		}
	}
	n.atLeast(t, 600, api.OK)
	n.atLeast(t, 5, api.ErrOpen, api.ErrName, api.ErrExpr, api.ErrNumber, api.ErrZero, api.ErrShift, api.ErrMixed)
	if tokens < 30000 {
		t.Errorf("%d tokens", tokens)
	}
}

// What a line of text has is its tokens with the set's names replaced.
func TestL4NamesInText(t *testing.T) {
	text := "A B x\n#ifdef A\ny A\nB\n#else\nA z\n#endif\nx\n#if A && !B\nw\n#endif\nB"
	lines := direct.Lines(pptok.Tokens(0, text))
	a := arena(t, 2)
	nodes, _, e := presence.Lines(a, first(2), lines)
	if e != api.OK {
		t.Fatal(e)
	}
	for set, want := range []string{"A B x A z x B", "1 B x y 1 B x w B", "A 1 x A z x 1", "1 1 x y 1 1 x 1"} {
		l, f := unit.Run([]api.File{{Path: "a", Text: text}}, "a", with(first(2), set))
		var read, told []string
		for i, n := range nodes {
			if h, _ := a.Holds(n, set); h && lines[i].Kind == api.Text {
				for _, x := range lines[i].Toks {
					if slices.Contains(with(first(2), set), x.Text) {
						x.Text = "1"
					}
					read = append(read, x.Text)
				}
			}
		}
		for _, x := range l {
			told = append(told, x.Text)
		}
		if f.E != api.OK || strings.Join(told, " ") != want || !slices.Equal(told, read) {
			t.Errorf("set %d: %q, %q, %d, not %q", set, told, read, f.E, want)
		}
	}
}
