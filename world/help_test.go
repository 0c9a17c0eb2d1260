package world_test

import (
	"slices"
	"strconv"
	"strings"
	"testing"

	"emend/api"
	"emend/world"
)

// project are files of texts, with the paths a.c, b.c and so on.
func project(texts ...string) []api.File {
	var out []api.File
	for i, text := range texts {
		out = append(out, api.File{Path: string(rune('a'+i)) + ".c", Text: text})
	}
	return out
}

// paths are files without texts.
func paths(l ...string) []api.File {
	var out []api.File
	for _, p := range l {
		out = append(out, api.File{Path: p})
	}
	return out
}

// same holds what is told of files against what the chapter's words tell.
func same(t *testing.T, files []api.File) {
	t.Helper()
	got, e := world.Names(files)
	if want, f := toldNames(files); e != f || !slices.Equal(got, want) {
		t.Fatalf("Names of %q: %q, %d, not %q, %d", files, got, e, want, f)
	}
	if got, want := world.Known(files), toldKnown(files); !slices.Equal(got, want) {
		t.Fatalf("Known of %q: %q, not %q", files, got, want)
	}
	if got, want := world.Spelled(files), toldSpelled(files); !slices.Equal(got, want) {
		t.Fatalf("Spelled of %q: %q, not %q", files, got, want)
	}
	if got, want := world.Mains(files), toldMains(files); !slices.Equal(got, want) {
		t.Fatalf("Mains of %q: %q, not %q", files, got, want)
	}
}

// asked checks which names texts ask for.
func asked(t *testing.T, want string, texts ...string) {
	t.Helper()
	same(t, project(texts...))
	if got, e := world.Names(project(texts...)); strings.Join(got, " ") != want || e != api.OK {
		t.Errorf("Names of %q: %q, %d, not %q", texts, got, e, want)
	}
}

// tooMany checks that texts ask for more names than there may be.
func tooMany(t *testing.T, texts ...string) {
	t.Helper()
	same(t, project(texts...))
	if got, e := world.Names(project(texts...)); len(got) > 0 || e != api.ErrVars {
		t.Errorf("Names of %q: %q, %d", texts, got, e)
	}
}

// known checks which names texts define.
func known(t *testing.T, want string, texts ...string) {
	t.Helper()
	same(t, project(texts...))
	if got := world.Known(project(texts...)); strings.Join(got, " ") != want {
		t.Errorf("Known of %q: %q, not %q", texts, got, want)
	}
}

// spelled checks which names stand in texts.
func spelled(t *testing.T, want string, texts ...string) {
	t.Helper()
	same(t, project(texts...))
	if got := world.Spelled(project(texts...)); strings.Join(got, " ") != want {
		t.Errorf("Spelled of %q: %q, not %q", texts, got, want)
	}
}

// defs checks a set's names.
func defs(t *testing.T, names string, set int, want string, e api.Errno) {
	t.Helper()
	l := strings.Fields(names)
	got, f := world.Defs(l, set)
	if strings.Join(got, " ") != want || e != f {
		t.Errorf("Defs of %q, %d: %q, %d, not %q, %d", names, set, got, f, want, e)
	}
	if told, g := toldDefs(l, set); e != g || !slices.Equal(got, told) {
		t.Errorf("Defs of %q, %d: the words tell %q, %d", names, set, told, g)
	}
}

// sets checks the set of names.
func sets(t *testing.T, names, defs string, want int, e api.Errno) {
	t.Helper()
	l, d := strings.Fields(names), strings.Fields(defs)
	got, f := world.Set(l, d)
	if got != want || e != f {
		t.Errorf("Set of %q, %q: %d, %d, not %d, %d", names, defs, got, f, want, e)
	}
	if told, g := toldSet(l, d); e != g || got != told {
		t.Errorf("Set of %q, %q: the words tell %d, %d", names, defs, told, g)
	}
}

// numbered are so many texts, each with its number where an @ stands.
func numbered(n int, text string) string {
	var out strings.Builder
	for i := range n {
		out.WriteString(strings.ReplaceAll(text, "@", strconv.Itoa(i)))
	}
	return out.String()
}

// listsUpTo hands over all lists of the texts, of at most so many; what is handed over is good till the next one comes.
func listsUpTo(most int, from []string, do func(l []string)) {
	l := make([]string, 0, most)
	var grow func()
	grow = func() {
		do(l)
		if len(l) == most {
			return
		}
		for _, s := range from {
			l = append(l, s)
			grow()
			l = l[:len(l)-1]
		}
	}
	grow()
}
