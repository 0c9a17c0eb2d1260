package world_test

import (
	"math/rand/v2"
	"strings"
	"testing"

	"emend/api"
	"emend/world"
)

// All short lists of lines, in one file and in several, are told as the chapter's words tell.
func TestShortLists(t *testing.T) {
	t.Parallel()
	all := []string{"", "A", "#if A + B", "#elif C", "#ifdef A", "#ifndef defined", "#else A", "#endif A", "#define A B", "#define", "#define 1 A", "#undef B C", "#undef __VA_ARGS__", "#include <A>", "#foo A", "# // A", "#if 'A' /*", "*/ B", "#if A \\", "\\"}
	listsUpTo(3, all, func(l []string) {
		same(t, project(strings.Join(l, "\n")))
		same(t, project(l...))
	})
}

// All short lists of bits of lines.
func TestShortBits(t *testing.T) {
	t.Parallel()
	all := []string{"#", "if", "define", "A", "1", " ", "\n", "\"", "'", "/", "*", "\\"}
	listsUpTo(4, all, func(l []string) {
		text := strings.Join(l, "")
		same(t, project(text))
		same(t, project("#if "+text))
		same(t, project("#undef"+text+"\n#elif A"))
	})
}

// Longer texts, of several files.
func TestGrownTexts(t *testing.T) {
	t.Parallel()
	bits := []string{"#", "\n#if ", "\n#ifdef ", "\n#ifndef ", "\n#elif ", "\n#define ", "\n#undef ", "\n#else ", "\n#include ", "\n# line ", "defined", "__VA_ARGS__", "A", "A ", "B ", "C ", "_ ", "a1 ", "X ", "Y ", "Z ", "N0 ", "N1 ", "N2 ", "(", ")", "+", "##", "...", "1", "1.5e+", "L", "\"", "'", "\\", "\\\n", "\r", "\t", "\x00", "\xff", "é", "/*", "*/", "//", "\n"}
	r := rand.New(rand.NewPCG(11, 11))
	text := func(most int) string {
		var out strings.Builder
		for range r.IntN(most) {
			out.WriteString(bits[r.IntN(len(bits))])
		}
		return out.String()
	}
	came := map[api.Errno]int{}
	for range 6000 {
		files := project(text(40), text(40), text(80))[:1+r.IntN(3)]
		same(t, files)
		spells(t, files)
		_, e := world.Names(files)
		came[e]++
	}
	if came[api.OK] < 1000 || came[api.ErrVars] < 100 {
		t.Errorf("%v", came)
	}
}
