package world_test

import (
	"slices"
	"strings"
	"testing"

	"emend/api"
	"emend/direct"
	"emend/world"
)

// mains checks which paths are compiled.
func mains(t *testing.T, want []string, l ...string) {
	t.Helper()
	same(t, paths(l...))
	if got := world.Mains(paths(l...)); !slices.Equal(got, want) {
		t.Errorf("Mains of %q: %q, not %q", l, got, want)
	}
}

func TestK3Mains(t *testing.T) {
	mains(t, []string{"a.c", "x/y.c", ".c"}, "a.c", "b.h", "x/y.c", ".c")
	mains(t, nil)
	mains(t, nil, "", "c", ".", "a", "ac", "/c", "a.C", ".C", "a.cc", "a.c.h", "a.c ", "a.c/", "a.h", "a.", "a.c\x00", "a.c\n", "c.", ".c.", "a,c")
	mains(t, []string{"a.c"}, "a.c", "a.c")
	mains(t, []string{"b.c", "a.c", "c.c"}, "b.c", "a.c", "b.c", "c.c", "a.c", "b.c")
	mains(t, []string{"z.c", "A.c", "a.c", "_.c"}, "z.c", "A.c", "z.c", "a.c", "_.c", "A.c")
	mains(t, []string{"a.c", "./a.c", "a.c.c", "a..c", " .c", "\xff.c", "a b.c", "/.c"}, "a.c", "./a.c", "a.c.c", "a..c", " .c", "\xff.c", "a b.c", "/.c")
	mains(t, []string{".c"}, "", ".c", "", ".c", "c")
	// Texts do not matter.
	files := []api.File{{Path: "a.h", Text: "b.c"}, {Path: "b.c", Text: "#error"}, {Path: "b.c", Text: ""}, {Path: "a.c"}}
	if got := world.Mains(files); !slices.Equal(got, []string{"b.c", "a.c"}) {
		t.Errorf("%q", got)
	}
}

func TestK3Spelled(t *testing.T) {
	spelled(t, "")
	spelled(t, "", "")
	spelled(t, "", "", "\n", "// a\n/* b */")
	spelled(t, "A int x", "int x = A;")
	spelled(t, "a b c d", "d c\nb", "a d", "c")
	spelled(t, "A A1 AA A_ B _ __ a", "a __ _ B A_ AA A1 A", "AA a")
	spelled(t, "ab c", "a\\\nb\\\n c")
	// Of lines of each kind, with the directive's own word.
	for kind := api.If; kind <= api.LineNo; kind++ {
		word := direct.Word(kind)
		spelled(t, word+" z z1 z2", "# "+word+" z1 z(z2)")
		spelled(t, word, "#"+word)
	}
	spelled(t, "foo z", "#foo z")
	spelled(t, "z", "#\n#1 z", "##\n# # z")
	spelled(t, "a h include sys", "#include <sys/a.h>")
	spelled(t, "include", "#include \"sys/a.h\"")
	spelled(t, "A B b define elif if", "#if 0\n#define A(b) #b\n#elif B")
	spelled(t, "__VA_ARGS__ defined", "defined __VA_ARGS__")
	spelled(t, "pragma x y", "#pragma x\n#pragma y\n#pragma x")
	// What is no Ident, and what stands within quotes and comments.
	spelled(t, "", "1a .5b 0x1F 1e+c 'a' \"b c\" // d\n/* e\n f */ + - @ $ \\ \"a\\\"b\"")
	spelled(t, "L a u8", "L\"b\" u8'c' a\"d\"a")
	spelled(t, "a b c d", "'a\nb' \"c\nd")
	spelled(t, "a b", "/* a", "/\\\n/ c", "b // c\\\n d")
	spelled(t, "a b c", "aéb\x00c\xff")
	// Paths are no texts.
	if got := world.Spelled([]api.File{{Path: "a.c", Text: "b"}, {Path: "c"}}); strings.Join(got, " ") != "b" {
		t.Errorf("%q", got)
	}
}

// K4: what is asked for, or defined, is spelled.
func spells(t *testing.T, files []api.File) {
	t.Helper()
	all := world.Spelled(files)
	names, _ := world.Names(files)
	for _, n := range append(names, world.Known(files)...) {
		if _, ok := slices.BinarySearch(all, n); !ok {
			t.Fatalf("%q is spelled by none of %q", n, files)
		}
	}
	for _, n := range names {
		if slices.Contains(world.Known(files), n) {
			t.Fatalf("%q is defined in %q, and asked for", n, files)
		}
	}
}

func TestK4Spelled(t *testing.T) {
	all := []string{"A", "#if A + B", "#ifdef C", "#elif \"A\"", "#define A B", "#undef B", "#error C", "#else B"}
	listsUpTo(3, all, func(l []string) {
		spells(t, project(strings.Join(l, "\n")))
		spells(t, project(l...))
	})
}
