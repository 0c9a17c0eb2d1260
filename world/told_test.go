package world_test

import (
	"regexp"
	"slices"
	"strings"

	"emend/api"
)

// What the calls must tell, by the words of the chapter and of those that it stands on: texts are read by regular expressions, and names stand in lists.

var (
	piece  = regexp.MustCompile(`(?s)//[^\n]*|/\*.*?\*/|[ \t\v\f\r]|\n|[A-Za-z_][A-Za-z_0-9]*|\.?[0-9](?:[eEpP][-+]|[A-Za-z_0-9.])*|"(?:\\[^\n]|[^"\\\n])*"|'(?:\\[^\n]|[^'\\\n])+'|##|.`)
	passed = regexp.MustCompile(`^(?:[ \t\v\f\r]|//|/\*(?s:.*)\*/)`)
	name   = regexp.MustCompile(`^[A-Za-z_][A-Za-z_0-9]*$`)
	asks   = []string{"if", "elif", "ifdef", "ifndef"}
	says   = []string{"define", "undef"}
)

// toldLine is a line's directive, or nothing, and the texts of the tokens behind it.
type toldLine struct {
	word string
	toks []string
}

// toldTokens are the texts of a text's tokens.
func toldTokens(text string) []string {
	var out []string
	for _, p := range piece.FindAllString(strings.ReplaceAll(text, "\\\n", ""), -1) {
		if !passed.MatchString(p) {
			out = append(out, p)
		}
	}
	return out
}

func toldLines(files []api.File) []toldLine {
	var out []toldLine
	for _, f := range files {
		var l []string
		for _, p := range append(toldTokens(f.Text), "\n") {
			if p != "\n" {
				l = append(l, p)
				continue
			}
			if len(l) > 1 && l[0] == "#" {
				out = append(out, toldLine{l[1], l[2:]})
			}
			l = nil
		}
	}
	return out
}

// once are texts by rising bytes, each once.
func once(l []string) []string {
	l = slices.Clone(l)
	slices.SortFunc(l, strings.Compare)
	return slices.Compact(l)
}

func toldKnown(files []api.File) []string {
	var out []string
	for _, l := range toldLines(files) {
		if slices.Contains(says, l.word) && len(l.toks) > 0 && name.MatchString(l.toks[0]) {
			out = append(out, l.toks[0])
		}
	}
	return once(out)
}

func toldNames(files []api.File) ([]string, api.Errno) {
	known := toldKnown(files)
	var out []string
	for _, l := range toldLines(files) {
		for _, p := range l.toks {
			if slices.Contains(asks, l.word) && name.MatchString(p) && p != "defined" && p != "__VA_ARGS__" && !slices.Contains(known, p) {
				out = append(out, p)
			}
		}
	}
	if out = once(out); len(out) > 8 {
		return nil, api.ErrVars
	}
	return out, api.OK
}

func toldSpelled(files []api.File) []string {
	var out []string
	for _, f := range files {
		out = append(out, toldTokens(f.Text)...)
	}
	return once(slices.DeleteFunc(out, func(p string) bool { return !name.MatchString(p) }))
}

func toldMains(files []api.File) []string {
	var out []string
	for _, f := range files {
		if n := len(f.Path); n >= 2 && f.Path[n-2:] == ".c" && !slices.Contains(out, f.Path) {
			out = append(out, f.Path)
		}
	}
	return out
}

func toldDefs(names []string, set int) ([]string, api.Errno) {
	sets := 1
	for range names {
		sets *= 2
	}
	if len(names) > 8 || set < 0 || set > sets-1 {
		return nil, api.ErrArg
	}
	var out []string
	for _, n := range names {
		if set%2 == 1 {
			out = append(out, n)
		}
		set /= 2
	}
	return out, api.OK
}

func toldSet(names, defs []string) (int, api.Errno) {
	if len(names) > 8 {
		return 0, api.ErrArg
	}
	var has [8]bool
	for _, d := range defs {
		if !slices.Contains(names, d) {
			return 0, api.ErrName
		}
		for i, n := range names {
			if n == d {
				has[i] = true
				break
			}
		}
	}
	set := 0
	for i, bit := range []int{1, 2, 4, 8, 16, 32, 64, 128} {
		if has[i] {
			set += bit
		}
	}
	return set, api.OK
}
