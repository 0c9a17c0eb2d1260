package choice_test

import (
	"slices"
	"strings"
	"testing"

	"emend/api"
	"emend/bdd"
	"emend/choice"
	"emend/pptok"
)

// The examples' table.
func TestExamples(t *testing.T) {
	merges(t, []string{"abc", "axc"}, "a b0 x1 c", "a x1 b0 c")
	a, m := merged(t, listsOf("abc", "axc")...)
	if got := choice.Select(a, m, 1); !slices.Equal(got, toks("axc")) {
		t.Errorf("%v", got)
	}
	if m, e := choice.Merge(a, listsOf("abc")); len(m) > 0 || e != api.ErrArg {
		t.Errorf("%v, %d", m, e)
	}
}

// M2: another number of lists than there are sets.
func TestM2Numbers(t *testing.T) {
	for vars := range 9 {
		a := arena(t, vars)
		for _, n := range []int{0, 1, 2, 3, 4, 5, 7, 8, 9, 127, 128, 129, 255, 256, 257, 512} {
			want := api.ErrArg
			if n == 1<<vars {
				want = api.OK
			}
			for _, word := range []string{"", "ab"} {
				m, e := choice.Merge(a, slices.Repeat(listsOf(word), n))
				if e != want || e != api.OK && m != nil || e == api.OK && len(m) != len(word) {
					t.Errorf("%d names, %d lists of %q: %d, %v", vars, n, word, e, m)
				}
			}
		}
	}
}

func TestM2NoName(t *testing.T) {
	for _, word := range []string{"", "a", "aa", "abcab"} {
		merges(t, []string{word}, strings.Join(strings.Split(word, ""), " "))
	}
}

func TestM2OneName(t *testing.T) {
	for _, x := range []struct{ one, other, want, or string }{
		{"", "", "", ""},
		{"", "a", "a1", "a1"},
		{"a", "", "a0", "a0"},
		{"a", "a", "a", "a"},
		{"a", "b", "a0 b1", "b1 a0"},
		{"ab", "a", "a b0", "a b0"},
		{"ab", "b", "a0 b", "a0 b"},
		{"abc", "ac", "a b0 c", "a b0 c"},
		{"xaby", "xbay", "x a0 b a1 y", "x b1 a b0 y"},
		{"aa", "a", "a a0", "a a0"}, // what all begin with comes first
		{"aba", "a", "a b0 a0", "a b0 a0"},
		{"aba", "aa", "a b0 a", "a b0 a"},
		{"abab", "ab", "a b a0 b0", "a b a0 b0"},
		{"aaa", "aaaaa", "a a a a1 a1", "a a a a1 a1"},
	} {
		merges(t, []string{x.one, x.other}, x.want, x.or)
	}
}

func TestM2MoreNames(t *testing.T) {
	for _, x := range []struct{ words, want string }{
		{"abc axc abc axc", "a b02 x13 c|a x13 b02 c"},
		{"axc axc abc abc", "a x01 b23 c|a b23 x01 c"},
		{"aa a aaa -", "a012 a02 a2"},
		{"- - - a", "a3"},
		{"a - - -", "a0"},
		{"a b b a", "a03 b12|b12 a03|a0 b12 a3|b2 a03 b1"},
		{"ab a ab a", "a b02"},
		{"ab b ab b", "a02 b"},
		{"xy xay xby xaby", "x a13 b23 y"},
		{"xy xy xy xy xy xy xy xay", "x a7 y"},
		{"xy xay xy xay xy xay xy xay", "x a1357 y"},
		{"xy xy xay xay xy xy xay xay", "x a2367 y"},
		{"xy xy xy xy xay xay xay xay", "x a4567 y"},
		{"x - - - - - - x", "x07"},
	} {
		words := strings.Fields(x.words)
		for i, w := range words {
			words[i] = strings.Trim(w, "-")
		}
		merges(t, words, strings.Split(x.want, "|")...)
	}
}

// M2: what all begin with and what all end with would take more than the shortest list: what all begin with comes first, and the end is that of what is left.
func TestM2Overlaps(t *testing.T) {
	merges(t, []string{"aa", "aaa"}, "a a a1")
	merges(t, []string{"aba", "ababa"}, "a b a b1 a1")
	merges(t, []string{"abba", "aba"}, "a b b0 a")
	merges(t, []string{"aba", "abba"}, "a b b1 a")
	merges(t, []string{"aaba", "aa", "aabaaba", "aa"}, "a a b02 a02 a2 b2 a2", "a a b2 a2 a2 b02 a02", "a a b02 a2 a2 b2 a02", "a a b02 a02 b2 a2 a2", "a a b02 a2 a02 b2 a2")
	merges(t, []string{"xyx", "x"}, "x y0 x0")
	merges(t, []string{"xyzx", "xzx"}, "x y0 z x")
	for _, words := range [][]string{{"xx", "xxx", "xxxx", "x"}, {"xyxyx", "xyx", "xyxyxyx", "xyx"}, {"ab", "aab", "abb", "aabb"}, {"a", "aba", "abaaba", "aa", "aaa", "abaa", "aaba", "aabaa"}} {
		merged(t, listsOf(words...)...)
	}
}

// M2: tokens that are alike but for one field are not the same.
func TestM2Fields(t *testing.T) {
	x := api.Tok{Kind: api.Ident, Text: "x", File: 1, From: 2, To: 3, Blank: true}
	others := slices.Repeat([]api.Tok{x}, 6)
	others[0].Kind = api.Other
	others[1].Text = "y"
	others[2].File = 2
	others[3].From = 1
	others[4].To = 4
	others[5].Blank = false
	for i, y := range others {
		for _, ends := range []string{"", "a"} {
			lists := [][]api.Tok{slices.Concat(toks(ends), []api.Tok{x}, toks(ends)), slices.Concat(toks(ends), []api.Tok{y}, toks(ends))}
			if _, m := merged(t, lists...); len(m) != 2+2*len(ends) {
				t.Errorf("field %d: %v", i, m)
			}
			if _, m := merged(t, lists[0], lists[0]); len(m) != 1+2*len(ends) {
				t.Errorf("the same: %v", m)
			}
		}
	}
	lists := make([][]api.Tok, 0, 8)
	for _, y := range append(others, x, x) {
		lists = append(lists, []api.Tok{y})
	}
	if _, m := merged(t, lists...); len(m) < 7 {
		t.Errorf("%v", m)
	}
}

// M2: texts as they are read, of which some lines are there for some sets.
func TestM2Texts(t *testing.T) {
	line := []string{"int a;\n", "int b;\n", "int c = 1;\n", "int d;\n"}
	lists := make([][]api.Tok, 4)
	for set := range lists {
		at := 0
		for i, s := range line {
			var l []api.Tok
			for _, x := range pptok.Tokens(0, s) {
				x.From, x.To = x.From+at, x.To+at
				l = append(l, x)
			}
			at += len(s)
			if i == 0 || i == 3 || set>>(i-1)&1 == 1 {
				lists[set] = append(lists[set], l...)
			}
		}
	}
	a, m := merged(t, lists...)
	x, y := good(t)(a.Var(0)), good(t)(a.Var(1))
	var got []bdd.Node
	for _, c := range m {
		got = append(got, c.Cond)
	}
	want := slices.Concat(slices.Repeat([]bdd.Node{1}, 4), slices.Repeat([]bdd.Node{x}, 4), slices.Repeat([]bdd.Node{y}, 6), slices.Repeat([]bdd.Node{1}, 4))
	if !slices.Equal(got, want) {
		t.Errorf("%v, not %v", got, want)
	}
}

// M4: of lists that are all the same comes that one.
func TestM4AllTheSame(t *testing.T) {
	for vars := range 9 {
		for _, word := range []string{"", "a", "aa", "abcba"} {
			_, m := merged(t, slices.Repeat(listsOf(word), 1<<vars)...)
			if len(m) != len(word) {
				t.Errorf("%d names, %q: %d parts", vars, word, len(m))
			}
			for i, c := range m {
				if c.Cond != 1 || c.T != tok(rune(word[i])) {
					t.Errorf("%d names, %q: %v", vars, word, c)
				}
			}
		}
	}
}
