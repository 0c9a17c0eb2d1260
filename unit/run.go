package unit

import (
	"emend/api"
	"emend/cond"
	"emend/direct"
	"emend/pptok"
)

// running is what one Run keeps from file to file.
type running struct {
	files  []api.File
	macros macros
	told   []api.Tok
	// depth is how many files are being run one within the other.
	depth int
	// includes is how many were done, wherever they stood.
	includes int
}

// source is a file that is being run.
type source struct {
	file  int
	toks  []api.Tok
	lines []api.Line
}

// wrong is an error at a line, nil if it is none.
func (s source) wrong(line int, e api.Errno) error {
	if e == api.OK {
		return nil
	}
	return fault{api.Fault{File: s.file, Line: line, E: e}}
}

// texts is how many items from the first one on are lines of text.
func (s source) texts(items []api.Item) int {
	n := 0
	for n < len(items) && s.lines[items[n].Line].Kind == api.Text {
		n++
	}
	return n
}

// between are the tokens from one line to another, with the Newlines between them.
func (s source) between(first, last int) []api.Tok {
	end := s.lines[last]
	return s.toks[s.lines[first].First : end.First+end.N]
}

func (r *running) file(n int) error {
	toks := pptok.Tokens(n, r.files[n].Text)
	s := source{file: n, toks: toks, lines: direct.Lines(toks)}
	items, line, e := cond.Parse(s.lines)
	if e != api.OK {
		return s.wrong(line, e)
	}
	r.depth++
	err := r.items(s, items)
	r.depth--
	return err
}

func (r *running) items(s source, items []api.Item) error {
	for len(items) > 0 {
		var err error
		n := s.texts(items)
		if n > 0 {
			first, last := items[0].Line, items[n-1].Line
			err = s.wrong(first, r.text(s.between(first, last)))
		} else {
			n = 1
			err = r.item(s, items[0])
		}
		if err != nil {
			return err
		}
		items = items[n:]
	}
	return nil
}

// text tells what comes of lines of text that stand one behind the other.
func (r *running) text(l []api.Tok) api.Errno {
	l, e := r.macros.expanded(l)
	if e != api.OK {
		return e
	}
	if len(r.told)+len(l) > api.MaxToks {
		return api.ErrSteps
	}
	r.told = append(r.told, l...)
	if len(l) > 0 {
		r.told[len(r.told)-len(l)].Blank = true
	}
	return api.OK
}

// item runs one that is no text.
func (r *running) item(s source, x api.Item) error {
	l := s.lines[x.Line]
	switch l.Kind {
	case api.If, api.Ifdef, api.Ifndef:
		return r.conditional(s, x.Branches)
	case api.Define:
		return s.wrong(x.Line, r.macros.define(l.Toks))
	case api.Undef:
		return s.wrong(x.Line, r.macros.undefine(l.Toks))
	case api.Include:
		return r.include(s, x.Line)
	case api.Error:
		return s.wrong(x.Line, api.ErrError)
	case api.Unknown:
		return s.wrong(x.Line, api.ErrDirective)
	}
	return nil
}

func (r *running) conditional(s source, branches []api.Branch) error {
	for _, b := range branches {
		holds, e := r.macros.holds(s.lines[b.Line])
		if e != api.OK {
			return s.wrong(b.Line, e)
		}
		if holds {
			return r.items(s, b.Items)
		}
	}
	return nil
}

func (r *running) include(s source, line int) error {
	path, _, e := direct.Target(s.lines[line])
	if e != api.OK {
		return s.wrong(line, e)
	}
	n := Find(r.files, path)
	if n < 0 {
		return s.wrong(line, api.ErrMissing)
	}
	if r.depth == api.MaxDepth || r.includes == api.MaxIncludes {
		return s.wrong(line, api.ErrDepth)
	}
	r.includes++
	return r.file(n)
}
