package world

import (
	"iter"
	"slices"

	"emend/api"
	"emend/direct"
	"emend/pptok"
)

// gathered are texts, each once.
type gathered map[string]struct{}

// add tells whether the text is a new one.
func (g gathered) add(text string) bool {
	before := len(g)
	g[text] = struct{}{}
	return len(g) > before
}

// words adds those of tokens.
func (g gathered) words(l []api.Tok) {
	for _, t := range l {
		if t.Kind == api.Ident {
			g.add(t.Text)
		}
	}
}

// asking adds what a line's condition asks for.
func (g gathered) asking(l api.Line) {
	switch l.Kind {
	case api.If, api.Elif, api.Ifdef, api.Ifndef:
		g.words(l.Toks)
	}
}

// defining adds what a line defines, or says to be undefined.
func (g gathered) defining(l api.Line) {
	switch l.Kind {
	case api.Define, api.Undef:
		// A word behind something else is no name of a macro, so that it is not looked for there.
		g.words(l.Toks[:min(1, len(l.Toks))])
	}
}

// sorted are the texts by rising bytes: a map has them in an order that is no answer's.
func (g gathered) sorted() []string {
	var out []string
	for text := range g {
		out = append(out, text)
	}
	slices.Sort(out)
	return out
}

// tokens are those of each file.
func tokens(files []api.File) iter.Seq[[]api.Tok] {
	return func(yield func(l []api.Tok) bool) {
		for n, f := range files {
			if !yield(pptok.Tokens(n, f.Text)) {
				return
			}
		}
	}
}

// lines are those of all files.
func lines(files []api.File) iter.Seq[api.Line] {
	return func(yield func(l api.Line) bool) {
		for l := range tokens(files) {
			for _, line := range direct.Lines(l) {
				if !yield(line) {
					return
				}
			}
		}
	}
}
