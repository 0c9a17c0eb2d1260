package presence_test

import (
	"regexp"
	"slices"
	"strings"
	"sync"

	"emend/api"
	"emend/unit"
)

// What the calls must tell, by the words of the chapter: each set by itself, line after line, with what is open on a stack; what a condition comes to with a set's names is seen by running a file of it alone.

var (
	piece = regexp.MustCompile(`//.*|/\*.*?\*/|\s+|[A-Za-z_]\w*|\.?[0-9](?:[eEpP][-+]|[\w.])*|"(?:\\.|[^"\\])*"|'(?:\\.|[^'\\])+'|##|&&|\|\||.`)
	blank = regexp.MustCompile(`^(?://|/\*|\s)`)
	word  = regexp.MustCompile(`^[A-Za-z_]`)
)

// bits are the texts of a line's tokens.
func bits(text string) []string {
	return slices.DeleteFunc(piece.FindAllString(strings.ReplaceAll(text, "\\\n", ""), -1), blank.MatchString)
}

// directive is a line's word behind its sign, or nothing, and what stands behind it.
func directive(text string) (string, []string) {
	if l := bits(text); len(l) > 1 && l[0] == "#" {
		return l[1], l[2:]
	}
	return "", nil
}

type asking struct {
	text, defs string
}

type answer struct {
	yes bool
	e   api.Errno
}

var (
	answersLock sync.Mutex
	answers     = map[asking]answer{}
)

// comesTo is whether a branch is taken by a compiler that is told some names.
func comesTo(text string, defs []string) answer {
	answersLock.Lock()
	defer answersLock.Unlock()
	k := asking{text, strings.Join(defs, " ")}
	if x, ok := answers[k]; ok {
		return x
	}
	file := text + "\nyes\n#endif"
	if d, _ := directive(text); strings.HasPrefix(d, "el") {
		file = "#if 0\n" + file
	}
	l, f := unit.Run([]api.File{{Path: "a", Text: file}}, "a", defs)
	x := answer{len(l) == 1, f.E}
	answers[k] = x
	return x
}

// with are a set's names.
func with(names []string, set int) []string {
	var out []string
	for i, n := range names {
		if set>>i%2 == 1 {
			out = append(out, n)
		}
	}
	return out
}

// toldCond is for which sets a line's condition must hold.
func toldCond(names []string, text string, asked has) (has, api.Errno) {
	d, l := directive(text)
	if !slices.Contains([]string{"if", "ifdef", "ifndef", "elif", "else"}, d) {
		return nil, api.ErrArg
	}
	out := make(has, len(asked))
	if !slices.Contains(asked, true) {
		return out, api.OK
	}
	if strings.HasSuffix(d, "def") {
		if len(l) != 1 || !word.MatchString(l[0]) {
			return nil, api.ErrName
		}
		if !slices.Contains(names, l[0]) {
			return nil, api.ErrMixed
		}
	}
	for _, p := range l {
		if strings.HasSuffix(d, "if") && word.MatchString(p) && p != "defined" && !slices.Contains(names, p) {
			return nil, api.ErrMixed
		}
	}
	for set := range out {
		if asked[set] {
			x := comesTo(text, with(names, set))
			if x.e != api.OK {
				return nil, x.e
			}
			out[set] = x.yes
		}
	}
	return out, api.OK
}

// level is a conditional that is open: for which sets it is read, for which a branch was taken, and for which the branch is read in which the walk is.
type level struct {
	line                int
	hasElse             bool
	around, taken, here has
}

// fault is what is wrong with how lines hang together.
func fault(texts []string) (int, api.Errno) {
	var open []level
	for i, text := range texts {
		d, _ := directive(text)
		switch top := len(open) - 1; {
		case strings.HasPrefix(d, "if"):
			open = append(open, level{line: i})
		case d == "endif" && top >= 0:
			open = open[:top]
		case d == "endif" || (d == "elif" || d == "else") && (top < 0 || open[top].hasElse):
			return i, api.ErrElse
		case d == "else":
			open[top].hasElse = true
		}
	}
	if len(open) > 0 {
		return open[len(open)-1].line, api.ErrOpen
	}
	return 0, api.OK
}

// toldLines is for which sets each line must be read.
func toldLines(names, texts []string) ([]has, int, api.Errno) {
	if line, e := fault(texts); e != api.OK {
		return nil, line, e
	}
	sets := 1 << len(names)
	var out []has
	open := []level{{here: all(len(names))}}
	for i, text := range texts {
		d, _ := directive(text)
		if strings.HasPrefix(d, "if") {
			open = append(open, level{around: open[len(open)-1].here, taken: make(has, sets)})
		}
		top := &open[len(open)-1]
		switch d {
		case "if", "ifdef", "ifndef", "elif", "else":
			left := make(has, sets)
			for set := range left {
				left[set] = top.around[set] && !top.taken[set]
			}
			here, e := toldCond(names, text, left)
			if e != api.OK {
				return nil, i, e
			}
			for set := range here {
				top.taken[set] = top.taken[set] || here[set]
			}
			top.here = here
			out = append(out, top.around)
		case "endif":
			out = append(out, top.around)
			open = open[:len(open)-1]
		default:
			out = append(out, top.here)
		}
	}
	return out, 0, api.OK
}
