package unit_test

import (
	"math/rand/v2"
	"reflect"
	"slices"
	"strconv"
	"strings"
	"testing"

	"emend/api"
	"emend/unit"
)

// The numbers that this layer tells, its limits and the kinds of lines are the document's.
func TestNumbers(t *testing.T) {
	for i, e := range []api.Errno{api.ErrFile, api.ErrMissing, api.ErrDepth, api.ErrRedef, api.ErrError, api.ErrDirective} {
		if e != api.Errno(100+i) {
			t.Errorf("%d is %d", 100+i, e)
		}
	}
	if api.OK != 0 || api.ErrInclude != 40 || api.ErrElse != 50 || api.ErrOpen != 51 || api.ErrName != 60 || api.ErrSteps != 82 {
		t.Error("errors")
	}
	if api.MaxDepth != 8 || api.MaxIncludes != 60 || api.MaxToks != 4000 {
		t.Error("limits")
	}
	for i, k := range []int{api.Text, api.If, api.Ifdef, api.Ifndef, api.Elif, api.Else, api.Endif, api.Define, api.Undef, api.Include, api.Error, api.Pragma, api.LineNo, api.Null, api.Unknown} {
		if k != i+1 {
			t.Errorf("%d is %d", i+1, k)
		}
	}
}

const many = 1 << 16

// R1: very many lines of each kind, in about as many steps as there are lines.
func TestR1Many(t *testing.T) {
	t.Parallel()
	numbered := func(text string) string {
		var out strings.Builder
		for i := range many {
			out.WriteString(strings.ReplaceAll(text, "@", strconv.Itoa(i)))
		}
		return out.String()
	}
	for _, text := range []string{
		"\n", " \n\n", "#\n", "#\n\n", "#pragma x\n", "#define N@ @\n", "#define N@\n\n", "#define N@\nN@\n", "#define N@ N@\n#if N@\n#else\n#endif\n", "#define N@\n#ifdef N@\n#endif\n#undef N@\n", "#if 0\nx\n#endif\n", "#define N 1\n#undef N\n", "#undef N@\n", "#define F(a)\nF(@)\n", "#if defined N@ || N@\n#endif\n", "#ifdef A\n#elif 1/0\n#endif\n",
	} {
		got, f := unit.Run(project(numbered(text)+"x"), "a", []string{"A"})
		if shown(got) != "x" || f != (api.Fault{}) {
			t.Errorf("%q: %d tokens, %v", text, len(got), f)
		}
	}
	for text, want := range map[string]api.Fault{"x\n": {E: api.ErrSteps}, "#\nx\n": {Line: 8001, E: api.ErrSteps}, "#if 1\n": {Line: many - 1, E: api.ErrOpen}, "x ": {E: api.ErrSteps}, "#include \"b\"\n": {Line: 60, E: api.ErrDepth}} {
		got, f := unit.Run(project(times(many, text), ""), "a", nil)
		if len(got) > 0 || f != want {
			t.Errorf("%q: %d tokens, %v, not %v", text, len(got), f, want)
		}
	}
}

// R1: conditionals that stand very deep, and very many branches.
func TestR1Deep(t *testing.T) {
	t.Parallel()
	for _, text := range []string{times(many, "#if 1\n") + "x\n" + times(many, "#endif\n"), times(many, "#if 0\n") + "y\n" + times(many, "#endif\n") + "x", times(many, "#if 0\n#else\n") + "x\n" + times(many, "#endif\n"), "#if 0\n" + times(many, "#elif 0\ny\n") + "#else\nx\n#endif", "#if 1\nx\n" + times(many, "#elif 1/0\ny\n") + "#endif"} {
		got, f := unit.Run(project(text), "a", nil)
		if shown(got) != "x" || f != (api.Fault{}) {
			t.Errorf("%.20q: %d tokens, %v", text, len(got), f)
		}
	}
	got, f := unit.Run(project(times(many, "#if 1\n")+"#foo\n"+times(many, "#endif\n")), "a", nil)
	if len(got) > 0 || f != (api.Fault{Line: many, E: api.ErrDirective}) {
		t.Errorf("%d tokens, %v", len(got), f)
	}
}

// R1: very many files and names.
func TestR1ManyNames(t *testing.T) {
	t.Parallel()
	var files []api.File
	var defs []string
	for i := range many {
		files = append(files, api.File{Path: "p" + strconv.Itoa(i), Text: "#error"})
		defs = append(defs, "N"+strconv.Itoa(many-1-i))
	}
	files = append(files, api.File{Path: "main", Text: times(60, "#include <last>\n") + "N7 N" + strconv.Itoa(many)}, api.File{Path: "last"})
	got, f := unit.Run(files, "main", slices.Concat(defs, defs))
	if shown(got) != "1 N"+strconv.Itoa(many) || f != (api.Fault{}) {
		t.Errorf("%q, %v", shown(got), f)
	}
	ms, e := unit.First(slices.Concat(defs, defs))
	if len(ms) != many || ms[0].Name != defs[0] || ms[many-1].Name != "N0" || e != api.OK {
		t.Errorf("First: %d, %d", len(ms), e)
	}
	if n := unit.Find(files, "main"); n != many {
		t.Errorf("Find: %d", n)
	}
}

// R1, R3: whatever the texts are, the calls end; with a fault nothing else is told, and without one all of it is 0.
func TestR3NothingWithAFault(t *testing.T) {
	t.Parallel()
	bits := []string{"#", "#", "#if", "#ifdef", "#elif", "#else\n", "#endif\n", "#define", "#undef", "#include", "#error", "defined", "__VA_ARGS__", "\"b\"", "<", "b", ">", "A", "F", "(", ")", ",", "##", "...", "1", "+", "\"", "'", "\\", "\\\n", "\x00", "\xff", "/*", "*/", "//"}
	r := rand.New(rand.NewPCG(3, 3))
	text := func() string {
		var out strings.Builder
		for range r.IntN(12) {
			out.WriteString(bits[r.IntN(len(bits))] + []string{"", " ", "\n"}[r.IntN(3)])
		}
		return out.String()
	}
	n := came{}
	for range 30000 {
		got, f := same(t, project(text(), text()), "a", []string{"A"})
		if f.E != api.OK && len(got) > 0 || f.E == api.OK && f != (api.Fault{}) {
			t.Fatalf("%v, %v", got, f)
		}
		n[f.E]++
	}
	n.atLeast(t, 10, api.OK, api.ErrInclude, api.ErrElse, api.ErrOpen, api.ErrName, api.ErrBlank, api.ErrExpr, api.ErrError, api.ErrDirective)
}

// R4: a nil list and an empty one are the same.
func TestR4NoLists(t *testing.T) {
	for _, none := range [][]string{nil, {}, []string{"A"}[:0]} {
		if ms, e := unit.First(none); len(ms) > 0 || e != api.OK {
			t.Errorf("First: %v, %d", ms, e)
		}
		if got, f := unit.Run(project("A"), "a", none); shown(got) != "A" || f != (api.Fault{}) {
			t.Errorf("Run: %q, %v", shown(got), f)
		}
	}
	for _, none := range [][]api.File{nil, {}, project("x")[:0]} {
		if got, f := unit.Run(none, "a", nil); len(got) > 0 || f != (api.Fault{E: api.ErrFile}) {
			t.Errorf("of no files: %q, %v", shown(got), f)
		}
	}
}

// R5: what is handed in stays as it was, also what stands behind its end; what is answered is its receiver's own.
func TestR5NothingIsChanged(t *testing.T) {
	texts := []string{"#include \"b\"\nA F(A) N\nN\n#undef N\n#define N 4\nN", "#define F(a) [a] N\n#define N 3\nN", "#error"}
	files, defs := project(texts...), []string{"A", "B", "A", "1"}
	for range 3 {
		got, f := unit.Run(files[:2], "a", defs[:3])
		if shown(got) != "3 1 [ 1 ] 3 3 3 4" || f != (api.Fault{}) {
			t.Fatalf("%q, %v", shown(got), f)
		}
		got = append(got, api.Tok{Text: "spoilt"})
		for i := range got {
			got[i] = api.Tok{Text: "spoilt", From: -1}
		}
		unit.Run(files, "c", defs[:3])
		unit.Run(files, "a", defs)
		ms, _ := unit.First(defs[:3])
		if len(ms) != 2 || ms[0].Name != "A" || ms[1].Name != "B" {
			t.Fatalf("%v", ms)
		}
		ms[0].Body[0].Text, ms[0].Name = "spoilt", "spoilt"
		ms[0].Body = append(ms[0].Body, ms[0].Body[0])
		if !reflect.DeepEqual(ms[1], one("B")) {
			t.Fatalf("%+v", ms[1])
		}
		if !reflect.DeepEqual(files, project(texts...)) || !slices.Equal(defs, []string{"A", "B", "A", "1"}) {
			t.Fatalf("%q, %q", files, defs)
		}
	}
}

// R6: a call hangs on its arguments alone; what earlier calls defined, and what was wrong in them, leaves nothing behind.
func TestR6NothingIsKept(t *testing.T) {
	for range 3 {
		holds(t, "", "N 3", "N | #define N 3 | N")
		holds(t, "N", "1", "N")
		holds(t, "", "N F ( 1 )", "N F(1)")
		fails(t, "", api.ErrCount, 0, 1, "#define F(a) a | F(1,2)")
		fails(t, "", api.ErrDepth, 0, 0, "#include \"a\"")
		fails(t, "", api.ErrDepth, 0, 60, times(61, "#include \"b\" | "), "")
		fails(t, "", api.ErrSteps, 0, 2, times(4000, "x ")+" | # | x")
		holds(t, "", "x", times(60, "#include \"b\" | ")+"x", "")
		holds(t, "", times(4000, "x ")[:7999], times(4000, "x "))
	}
}

// R8, R6: however many macros there are, in whatever order a map has them, two calls tell the same.
func TestR8Alike(t *testing.T) {
	var defs strings.Builder
	for i := range 40 {
		n := strconv.Itoa(i)
		defs.WriteString("#define N" + n + " N" + strconv.Itoa((i+1)%40) + " G(N, " + n + ")\n")
	}
	files := project(defs.String() + "#define G(a, b) a##b\nG(N, 0) N7\n")
	want, f := unit.Run(files, "a", nil)
	if len(want) < 80 || f != (api.Fault{}) {
		t.Fatalf("%q, %v", shown(want), f)
	}
	for range 20 {
		if got, g := unit.Run(files, "a", nil); !slices.Equal(got, want) || g != f {
			t.Fatalf("%q, %v and %q, %v", shown(want), f, shown(got), g)
		}
	}
}
