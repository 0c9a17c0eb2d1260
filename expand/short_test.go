package expand_test

import (
	"slices"
	"strings"
	"testing"

	"emend/api"
	"emend/expand"
	"emend/macro"
)

// lettered are the macros of definitions in letters; false, if one is none.
func lettered(defs ...string) ([]api.Macro, bool) {
	var ms []api.Macro
	for i, d := range defs {
		m, e := macro.Define(toks(i+1, d))
		if e != api.OK {
			return nil, false
		}
		ms = append(ms, m)
	}
	return ms, true
}

// enough checks that lists came to each of the errors, and to none, as often as a test needs that is to say something.
func enough(t *testing.T, came map[api.Errno]int, least int, all ...api.Errno) {
	t.Helper()
	for _, e := range all {
		if came[e] < least {
			t.Errorf("%d came %d times", e, came[e])
		}
	}
}

// H1: all short lists of brackets, of commas, and of what is like them.
func TestH1AllShortLists(t *testing.T) {
	t.Parallel()
	for _, s := range listsUpTo("(),a[;\n", 6) {
		l := toks(3, s)
		args, n, ok := expand.Args(l)
		var whole []word
		for _, x := range l {
			whole = append(whole, word{Tok: x})
		}
		end := -1
		if strings.HasPrefix(s, "(") {
			end = endOf(whole, 0)
		}
		if end < 0 {
			if ok || n != 0 || len(args) > 0 {
				t.Fatalf("Args of %q: %v, %d, %v", s, args, n, ok)
			}
			continue
		}
		want, _ := parted(whole[:end+1])
		alike := slices.EqualFunc(args, want, func(a []api.Tok, b []word) bool { return slices.Equal(a, plain(b)) })
		if !alike || n != end+1 || !ok {
			t.Fatalf("Args of %q: %v, %d, %v, not %v", s, args, n, ok, want)
		}
	}
}

// H2 to H4: all short lists, with macros that call each other, themselves, and nothing.
func TestH2AllShortLists(t *testing.T) {
	t.Parallel()
	came := map[api.Errno]int{}
	for _, defs := range [][]string{
		{"F(a) a", "G F", "X 1"},
		{"F(a) a+ a", "G(a,b) b a", "X F(1"},
		{"F() G", "G() F", "X )"},
		{"F(.) V V", "G(a,.) a;V", "X ,"},
		{"F(a) G(a)(a", "G(a) F(a", "X"},
		{"F(a) a$1", "G(a,.) F(V$a", "X F(F"},
		{"F F(F) G", "G", "X \nG X"},
		{"F(a) # a X", "X F", "X G", "G(F) F$F F"},
	} {
		ms, ok := lettered(defs...)
		if !ok {
			t.Fatalf("%q", defs)
		}
		for _, s := range listsUpTo("FGX(),1 \n", 5) {
			came[same(t, ms, toks(0, s))]++
		}
	}
	enough(t, came, 500, api.OK, api.ErrArgs, api.ErrCount)
}

// H3: all short bodies, with arguments of every sort.
func TestH3AllShortBodies(t *testing.T) {
	t.Parallel()
	came := map[api.Errno]int{}
	uses := []string{"F", "F ()x", "F(1) x", " F(X)", "F(,)x", "F( +,G(2))", "F(F(1),X 2,,(3))", "F(G,1)(1)"}
	for _, head := range []string{"F ", "F()", "F(a)", "F(a,b)", "F(.)", "F(a,.)", "F(a,b,.)"} {
		for _, body := range listsUpTo("abV#$ 1F", 4) {
			ms, ok := lettered(head+body, "X Y", "Y E3", "E", "G(a)1 a")
			if !ok {
				continue
			}
			for _, s := range uses {
				came[same(t, ms, toks(0, s))]++
			}
		}
	}
	enough(t, came, 500, api.OK, api.ErrCount, api.ErrGlue)
}

// H3: longer bodies with as many `##` as there may be, ahead of parameters, behind them, and in a row.
func TestH3AllBodiesThatPaste(t *testing.T) {
	t.Parallel()
	came := map[api.Errno]int{}
	for _, s := range listsUpTo("ab$ 1", 7) {
		if !strings.Contains(s, "$") {
			continue
		}
		ms, ok := lettered("F(a,b)"+s, "X 2")
		if !ok {
			continue
		}
		for _, use := range []string{"F(,)x", " F(X,) x", "F(,1 X)"} {
			came[same(t, ms, toks(0, use))]++
		}
	}
	enough(t, came, 500, api.OK, api.ErrGlue)
}

// What stands in letters that are like brackets, commas and signs, but of other kinds, is none of them.
func TestH2OtherKinds(t *testing.T) {
	ms, ok := lettered("F(a)a!a", "X F[1]", "G(a)[a]")
	if !ok {
		t.Fatal("definitions")
	}
	for _, s := range listsUpTo("F'([)];", 5) {
		same(t, ms, toks(0, s))
	}
	for _, s := range listsUpTo("XG'[]1(", 5) {
		same(t, ms, toks(0, s))
	}
}
