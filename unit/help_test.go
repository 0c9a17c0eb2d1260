package unit_test

import (
	"slices"
	"strings"
	"testing"

	"emend/api"
	"emend/unit"
)

// project are files of texts, with the paths a, b, c and so on.
func project(texts ...string) []api.File {
	var out []api.File
	for i, text := range texts {
		out = append(out, api.File{Path: string(rune('a' + i)), Text: text})
	}
	return out
}

// lines is a text of lines that are parted by bars, each with its end.
func lines(barred string) string {
	var out strings.Builder
	for line := range strings.SplitSeq(barred, "|") {
		out.WriteString(strings.TrimSpace(line) + "\n")
	}
	return out.String()
}

// shown are the texts of tokens, with a blank between each two.
func shown(l []api.Tok) string {
	var out []string
	for _, t := range l {
		out = append(out, t.Text)
	}
	return strings.Join(out, " ")
}

// seen is what Run tells of the first one of texts, and that it is what the chapter's words tell.
func seen(t *testing.T, defs string, texts []string) ([]api.Tok, api.Fault) {
	t.Helper()
	return same(t, project(texts...), "a", strings.Fields(defs))
}

// same holds what Run tells against what the chapter's words tell.
func same(t *testing.T, files []api.File, main string, defs []string) ([]api.Tok, api.Fault) {
	t.Helper()
	got, f := unit.Run(files, main, defs)
	want, g := told(files, main, defs)
	if f != g || !slices.Equal(got, want) {
		t.Fatalf("%q, %q of %q: %+v, %v, not %+v, %v", main, defs, files, got, f, want, g)
	}
	return got, f
}

// holds checks that tokens are told, and nothing wrong; lines of texts are parted by bars.
func holds(t *testing.T, defs, want string, barred ...string) {
	t.Helper()
	texts := each(barred, lines)
	got, f := seen(t, defs, texts)
	if shown(got) != want || f != (api.Fault{}) {
		t.Errorf("%q of %q: %q, %v, not %q", defs, barred, shown(got), f, want)
	}
}

// fails checks that a fault is told, and no tokens beside it.
func fails(t *testing.T, defs string, e api.Errno, file, line int, barred ...string) {
	t.Helper()
	texts := each(barred, lines)
	got, f := seen(t, defs, texts)
	if len(got) > 0 || f != (api.Fault{File: file, Line: line, E: e}) {
		t.Errorf("%q of %q: %q, %v, not %d in file %d, line %d", defs, barred, shown(got), f, e, file, line)
	}
}

func each(l []string, do func(string) string) []string {
	var out []string
	for _, s := range l {
		out = append(out, do(s))
	}
	return out
}

// times is a text again and again.
func times(n int, text string) string {
	return strings.Repeat(text, n)
}

// listsUpTo hands over all lists of the texts, of at most so many; what is handed over is good till the next one comes.
func listsUpTo(most int, from []string, do func(l []string)) {
	l := make([]string, 0, most)
	var grow func()
	grow = func() {
		do(l)
		if len(l) == most {
			return
		}
		for _, s := range from {
			l = append(l, s)
			grow()
			l = l[:len(l)-1]
		}
	}
	grow()
}
