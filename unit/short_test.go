package unit_test

import (
	"math/rand/v2"
	"slices"
	"strings"
	"testing"

	"emend/api"
	"emend/unit"
)

// came counts how often each error came.
type came map[api.Errno]int

// atLeast checks that errors came often enough for something to be seen of them.
func (c came) atLeast(t *testing.T, n int, all ...api.Errno) {
	t.Helper()
	for _, e := range all {
		if c[e] < n {
			t.Errorf("error %d came %d times", e, c[e])
		}
	}
}

// All short lists of lines are run as the chapter's words tell.
func TestShortLists(t *testing.T) {
	t.Parallel()
	all := []string{"", "A", "+F(", "1)", "#define A 1", "#define A 2", "#define F(a) [a]", "#undef A", "#ifdef A", "#ifndef A", "#if A == 1", "#elif defined A", "#elif 1/0", "#else", "#endif", "#include \"b\"", "#include <c>", "#error", "#foo", "#"}
	b, c := "A\n#ifndef F\n#define F(a) (a)\n#endif\n", "#ifdef A\n#undef A\n#else\n#define A 2\n#endif\n1)"
	n := came{}
	listsUpTo(3, all, func(l []string) {
		for _, defs := range [][]string{nil, {"A"}} {
			_, f := same(t, project(strings.Join(l, "\n"), b, c), "a", defs)
			n[f.E]++
		}
	})
	n.atLeast(t, 50, api.OK, api.ErrElse, api.ErrOpen, api.ErrArgs, api.ErrRedef, api.ErrError, api.ErrDirective)
}

// All short lists of lines of conditionals, with what they do.
func TestShortConditionals(t *testing.T) {
	t.Parallel()
	all := []string{"A", "#define A 1", "#undef A", "#ifdef A", "#if !A", "#elif A", "#else", "#endif"}
	n := came{}
	listsUpTo(5, all, func(l []string) {
		_, f := same(t, project(strings.Join(l, "\n")), "a", nil)
		n[f.E]++
	})
	n.atLeast(t, 1000, api.OK, api.ErrElse, api.ErrOpen)
}

// lines of texts that are grown: most of them are fine, wherever they stand.
var (
	fine = []string{
		"A", "B", "A B", "F(A)", "F (AB", ") + A", "G(A, B)", "+", "1", "x", "",
		"#undef A\n#define A 1", "#undef A\n#define A B", "#undef A\n#define A", "#undef B\n#define B A", "#undef B\n#define B F", "#undef F\n#define F(a) a a", "#undef F\n#define F(a) #a", "#undef F\n#define F(...) [__VA_ARGS__]", "#undef G\n#define G(a, b) a##b", "#define AB F", "#define AB F", "#define E",
		"#undef A", "#undef B", "#undef F", "#undef G", "#undef AB", "#include \"b\"", "#include <c>", "#", "#pragma x", "#line 1",
	}
	wrong       = []string{"F(", "F(1, 2)", "G(+, 1)", "#define A 1", "#define A B", "#define A+", "#define F(", "#define X ##", "#undef defined", "#undef", "#undef A B", "#include \"a\"", "#include no", "#include \"no\"", "#error", "#foo", "#else"}
	asks        = []string{"if 1", "if 0", "if A", "if !B", "ifdef A", "ifndef A", "ifdef B", "ifndef F", "ifdef F", "if defined A && B == 1", "if defined(B) || A"}
	wrongAsks   = []string{"if F(1)", "if G(A, B)", "if 1/0", "if F(", "if 08", "if", "ifdef", "ifdef A B", "ifndef 1", "if defined"}
	orAsks      = []string{"elif 1", "elif 0", "elif A", "elif !B", "elif defined F", "elif defined A || AB"}
	wrongOrAsks = []string{"elif G(A, B)", "elif 1/0", "elif 1 << 64", "elif F(", "elif 08", "elif", "elif defined"}
)

// of is one of texts, seldom one of those that may be wrong.
func of(r *rand.Rand, fine, wrong []string) string {
	if r.IntN(25) == 0 {
		fine = wrong
	}
	return fine[r.IntN(len(fine))] + "\n"
}

// grown is a text of lines, most of whose conditionals have an end.
func grown(r *rand.Rand, most, depth int) string {
	var out strings.Builder
	for range r.IntN(most) {
		if depth > 2 || r.IntN(4) > 0 {
			out.WriteString(of(r, fine, wrong))
			continue
		}
		out.WriteString("#" + of(r, asks, wrongAsks) + grown(r, 4, depth+1))
		for range r.IntN(3) {
			out.WriteString("#" + of(r, orAsks, wrongOrAsks) + grown(r, 4, depth+1))
		}
		if r.IntN(2) == 0 {
			out.WriteString("#else\n" + grown(r, 4, depth+1))
		}
		if r.IntN(60) > 0 {
			out.WriteString("#endif\n")
		}
	}
	return out.String()
}

// Longer texts of all kinds of lines, of several files.
func TestLongTexts(t *testing.T) {
	t.Parallel()
	r := rand.New(rand.NewPCG(10, 35))
	n, tokens := came{}, 0
	for range 15000 {
		files := project(grown(r, 20, 0), grown(r, 6, 0), grown(r, 5, 1))
		var defs []string
		for _, d := range []string{"A", "B", "F", "A", "AB"} {
			if r.IntN(3) == 0 {
				defs = append(defs, d)
			}
		}
		got, f := same(t, files, "a", defs)
		n[f.E]++
		tokens += len(got)
	}
	n.atLeast(t, 10, api.OK, api.ErrInclude, api.ErrElse, api.ErrOpen, api.ErrName, api.ErrParams, api.ErrBlank, api.ErrPaste, api.ErrGlue, api.ErrArgs, api.ErrCount, api.ErrExpr, api.ErrNumber, api.ErrZero, api.ErrMissing, api.ErrDepth, api.ErrRedef, api.ErrError, api.ErrDirective)
	n.atLeast(t, 4000, api.OK)
	if tokens < 20000 {
		t.Errorf("%d tokens in all", tokens)
	}
}

// In which order names are defined at first doesn't matter, nor how often, nor do files that are not included.
func TestJ6(t *testing.T) {
	t.Parallel()
	r := rand.New(rand.NewPCG(6, 6))
	for range 1000 {
		files := project(grown(r, 20, 0), grown(r, 6, 0), grown(r, 5, 1))
		defs := []string{"A", "B", "AB"}[:r.IntN(4)]
		want, f := same(t, files, "a", defs)
		turned := slices.Clone(defs)
		r.Shuffle(len(turned), func(i, k int) { turned[i], turned[k] = turned[k], turned[i] })
		for _, other := range [][]string{turned, slices.Concat(defs, turned), slices.Concat(turned, turned, defs)} {
			if got, g := unit.Run(files, "a", other); !slices.Equal(got, want) || g != f {
				t.Fatalf("%q of %q and %q: %v, %v and %v, %v", files, defs, other, want, f, got, g)
			}
		}
		more := append(slices.Clone(files), api.File{Path: "z", Text: "#define A 7\n#foo"}, api.File{Path: "a", Text: "#error"}, api.File{Path: "", Text: "#else"})
		if got, g := unit.Run(more, "a", defs); !slices.Equal(got, want) || g != f {
			t.Fatalf("%q with more files: %v, %v and %v, %v", files, want, f, got, g)
		}
	}
}

// Files ahead that are not included change the numbers of files, and nothing else.
func TestJ6FilesAhead(t *testing.T) {
	t.Parallel()
	r := rand.New(rand.NewPCG(6, 7))
	for range 1000 {
		files := project(grown(r, 20, 0), grown(r, 6, 0), grown(r, 5, 1))
		want, f := same(t, files, "a", []string{"A"})
		for i := range want {
			if want[i].File >= 0 {
				want[i].File += 2
			}
		}
		if f.E != api.OK {
			f.File += 2
		}
		more := slices.Concat([]api.File{{Path: "z", Text: "#define A 7\n#foo"}, {Path: "", Text: "#else"}}, files)
		if got, g := unit.Run(more, "a", []string{"A"}); !slices.Equal(got, want) || g != f {
			t.Fatalf("%q with files ahead: %v, %v and %v, %v", files, want, f, got, g)
		}
	}
}
