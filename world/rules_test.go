package world_test

import (
	"reflect"
	"slices"
	"strconv"
	"strings"
	"testing"

	"emend/api"
	"emend/world"
)

// The numbers that this layer tells, its limit, and the kinds that it asks for are the document's.
func TestNumbers(t *testing.T) {
	if api.OK != 0 || api.ErrArg != 1 || api.ErrName != 60 || api.ErrVars != 110 || api.MaxVars != 8 {
		t.Error("errors")
	}
	if api.Ident != 1 || api.If != 2 || api.Ifdef != 3 || api.Ifndef != 4 || api.Elif != 5 || api.Define != 8 || api.Undef != 9 {
		t.Error("kinds")
	}
}

const many = 1 << 16

// R1: very many lines, names and files, in about as many steps as there are of them.
func TestR1Many(t *testing.T) {
	t.Parallel()
	for text, want := range map[string]int{"#define N@ 1\n#if N@\n": many, "#if N@\n#undef N@\n": many, "#undef N\n#elif N\n": 1, "#if 1\n": 0, "\n": 0, "#define\n": 0, "x ": 0} {
		files := project(numbered(many, text))
		if got, e := world.Names(files); len(got) > 0 || e != api.OK {
			t.Errorf("%q: %d, %d", text, len(got), e)
		}
		if got := world.Known(files); len(got) != want {
			t.Errorf("%q: %d", text, len(got))
		}
	}
	one := "#if " + numbered(many, "N@ ") + "\n"
	if got, e := world.Names(project(one)); len(got) > 0 || e != api.ErrVars {
		t.Errorf("%d, %d", len(got), e)
	}
	if got, e := world.Names(project(one, numbered(many-8, "#define N@\n"))); len(got) != 8 || got[0] != "N"+strconv.Itoa(many-8) || e != api.OK {
		t.Errorf("%q, %d", got, e)
	}
	if got := world.Spelled(project(one)); len(got) != many+1 || got[0] != "N0" || got[many] != "if" {
		t.Errorf("%d", len(got))
	}
}

// R1: very many files, very long lists.
func TestR1ManyFiles(t *testing.T) {
	t.Parallel()
	var files []api.File
	var names []string
	for i := range many {
		n := strconv.Itoa(many - 1 - i)
		files = append(files, api.File{Path: n + ".c", Text: "#undef N" + n + "\n#if N" + n})
		names = append(names, "N"+n)
	}
	files = append(files, files...)
	if got := world.Mains(files); len(got) != many || got[0] != files[0].Path || got[many-1] != "0.c" {
		t.Errorf("%d", len(got))
	}
	if got, e := world.Names(files); len(got) > 0 || e != api.OK {
		t.Errorf("%d, %d", len(got), e)
	}
	if got := world.Known(files); len(got) != many || !slices.IsSorted(got) {
		t.Errorf("%d", len(got))
	}
	if got, e := world.Defs(names, 0); len(got) > 0 || e != api.ErrArg {
		t.Errorf("%d, %d", len(got), e)
	}
	if got, e := world.Set(names, names); got != 0 || e != api.ErrArg {
		t.Errorf("%d, %d", got, e)
	}
	if got, e := world.Set(names[:8], slices.Repeat(names[:8], many/8)); got != 255 || e != api.OK {
		t.Errorf("%d, %d", got, e)
	}
	if got, e := world.Set(names[:8], names); got != 0 || e != api.ErrName {
		t.Errorf("%d, %d", got, e)
	}
}

// R1: conditionals and brackets that stand very deep, and texts that go on for long.
func TestR1Deep(t *testing.T) {
	t.Parallel()
	for _, text := range []string{strings.Repeat("#if A\n", many) + strings.Repeat("#endif\n", many), "#if " + strings.Repeat("(", many) + "A" + strings.Repeat(")", many), "#if" + strings.Repeat(" \\\n", many) + " A", "#if A /*" + strings.Repeat("\nB", many) + "*/", "#if A // " + strings.Repeat("\\\nB", many), strings.Repeat("\\\n", many) + "#if A", strings.Repeat("\"\\\"", many) + "\n#elif A"} {
		if got, e := world.Names(project(text)); strings.Join(got, " ") != "A" || e != api.OK {
			t.Errorf("%.20q: %q, %d", text, got, e)
		}
	}
}

// R3: with an error nothing else is told.
func TestR3NothingWithAnError(t *testing.T) {
	names := strings.Fields("A B C D E F G H I")
	for n := range 10 {
		for set := -3; set < 600; set++ {
			if got, e := world.Defs(names[:n], set); e != api.OK && len(got) > 0 || (e == api.OK) != (n <= 8 && set >= 0 && set < 1<<n) {
				t.Errorf("Defs of %d names, %d: %q, %d", n, set, got, e)
			}
		}
		if got, e := world.Set(names[:n], []string{"A", "H", "J"}); got != 0 || e == api.OK {
			t.Errorf("Set of %d names: %d, %d", n, got, e)
		}
		if got, e := world.Names(project("#if " + strings.Join(names[:n], " "))); (e == api.OK) != (n <= 8) || e == api.OK && len(got) != n || e != api.OK && len(got) > 0 {
			t.Errorf("Names of %d names: %q, %d", n, got, e)
		}
	}
}

// R4: a nil list and an empty one are the same.
func TestR4NoLists(t *testing.T) {
	for _, none := range [][]api.File{nil, {}, project("#if A\n#undef B")[:0]} {
		if got, e := world.Names(none); len(got) > 0 || e != api.OK {
			t.Errorf("Names: %q, %d", got, e)
		}
		if len(world.Known(none)) > 0 || len(world.Mains(none)) > 0 || len(world.Spelled(none)) > 0 {
			t.Error("of no files something is told")
		}
	}
	for _, none := range [][]string{nil, {}, []string{"A"}[:0]} {
		if got, e := world.Defs(none, 0); len(got) > 0 || e != api.OK {
			t.Errorf("Defs: %q, %d", got, e)
		}
		if got, e := world.Set(none, none); got != 0 || e != api.OK {
			t.Errorf("Set: %d, %d", got, e)
		}
		if got, e := world.Set([]string{"A"}, none); got != 0 || e != api.OK {
			t.Errorf("Set of A: %d, %d", got, e)
		}
		if got, e := world.Set(none, []string{"A"}); got != 0 || e != api.ErrName {
			t.Errorf("Set of none: %d, %d", got, e)
		}
	}
}

// spoil changes an answer as its receiver may.
func spoil(l []string) {
	for i := range l {
		l[i] = "spoilt"
	}
	for i := range l[:cap(l)] {
		l[:cap(l)][i] = "spoilt"
	}
}

// R5: what is handed in stays as it was, also what stands behind its end; what is answered is its receiver's own.
func TestR5NothingIsChanged(t *testing.T) {
	texts := []string{"#if B A\n#define X", "#ifdef C\n#undef Y", "#if D"}
	files := project(texts...)
	names, some := strings.Fields("C A B D E F G H I"), []string{"C", "B", "no", "A"}
	for range 3 {
		got, e := world.Names(files[:2])
		if strings.Join(got, " ") != "A B C" || e != api.OK {
			t.Fatalf("%q, %d", got, e)
		}
		spoil(got)
		known, mains, all := world.Known(files[:2]), world.Mains(files[:2]), world.Spelled(files[:2])
		if strings.Join(known, " ") != "X Y" || strings.Join(mains, " ") != "a.c b.c" || strings.Join(all, " ") != "A B C X Y define if ifdef undef" {
			t.Fatalf("%q, %q, %q", known, mains, all)
		}
		spoil(known)
		spoil(mains)
		spoil(all)
		d, e := world.Defs(names[:3], 7)
		if strings.Join(d, " ") != "C A B" || e != api.OK {
			t.Fatalf("%q, %d", d, e)
		}
		spoil(append(d, "more"))
		spoil(d)
		if n, e := world.Set(names[:8], some[:2]); n != 5 || e != api.OK {
			t.Fatalf("%d, %d", n, e)
		}
		world.Set(names, some)
		world.Set(names[:3], some)
		world.Defs(names, 1)
		if !reflect.DeepEqual(files, project(texts...)) || !slices.Equal(names, strings.Fields("C A B D E F G H I")) || !slices.Equal(some, []string{"C", "B", "no", "A"}) {
			t.Fatalf("%q, %q, %q", files, names, some)
		}
	}
}

// R6, R8: a call hangs on its arguments alone, and however a map has its names, two calls tell the same.
func TestR6NothingIsKept(t *testing.T) {
	text := numbered(50, "#undef K@\n#if K@ x@\n#ifdef N"+"\n")
	files := project(text, numbered(50, "#define x@\n"))
	wantKnown, wantAll := world.Known(files), world.Spelled(files)
	if len(wantKnown) != 100 || len(wantAll) != 105 {
		t.Fatalf("%d, %d", len(wantKnown), len(wantAll))
	}
	for range 20 {
		asked(t, "N", text, files[1].Text)
		tooMany(t, text)
		asked(t, "A", "#if A")
		asked(t, "", "#if A", "#undef A")
		asked(t, "A", "#if A")
		known(t, "", "A")
		spelled(t, "A", "A")
		mains(t, []string{"b.c"}, "b.c")
		mains(t, []string{"a.c"}, "a.c")
		if !slices.Equal(world.Known(files), wantKnown) || !slices.Equal(world.Spelled(files), wantAll) {
			t.Fatal("two calls tell something else")
		}
	}
}
