package unit_test

import (
	"regexp"
	"slices"

	"emend/api"
	"emend/direct"
	"emend/expand"
	"emend/ifexpr"
	"emend/macro"
	"emend/pptok"
)

var name = regexp.MustCompile(`^[A-Za-z_][A-Za-z_0-9]*$`)

// teller tells what Run must tell, by J2's to J5's words, line by line: no tree is made of conditionals, macros stand in a list, and text waits until a line comes that is none.
type teller struct {
	files    []api.File
	ms       []api.Macro
	out      []api.Tok
	running  int
	includes int
}

// told throws faults, and so does whatever it calls.
func told(files []api.File, main string, defs []string) (l []api.Tok, f api.Fault) {
	defer func() {
		switch x := recover().(type) {
		case nil:
		case api.Fault:
			l, f = nil, x
		default:
			panic(x)
		}
	}()
	x := teller{files: files}
	for _, d := range defs {
		if !name.MatchString(d) || d == "defined" || d == "__VA_ARGS__" {
			panic(api.Fault{E: api.ErrName})
		}
		x.forget(d)
		x.ms = append(x.ms, api.Macro{Name: d, Body: []api.Tok{{Kind: api.Number, Text: "1", File: -1}}})
	}
	n := x.find(main)
	if n < 0 {
		panic(api.Fault{E: api.ErrFile})
	}
	x.file(n)
	return x.out, api.Fault{}
}

func (x *teller) find(path string) int {
	for n, f := range x.files {
		if f.Path == path {
			return n
		}
	}
	return -1
}

// macroOf is a name's place among the macros, or -1.
func (x *teller) macroOf(name string) int {
	return slices.IndexFunc(x.ms, func(m api.Macro) bool { return m.Name == name })
}

func (x *teller) forget(name string) {
	x.ms = slices.DeleteFunc(x.ms, func(m api.Macro) bool { return m.Name == name })
}

// level is a conditional that is open: whether what it stands in is read, whether a branch of it held already, whether the last one is read.
type level struct{ outer, held, read bool }

// waiting is text that no other line came behind yet.
type waiting struct {
	begun bool
	first int
	toks  []api.Tok
}

func (x *teller) file(n int) {
	ls := direct.Lines(pptok.Tokens(n, x.files[n].Text))
	unmatched(n, ls)
	x.running++
	var levels []level
	var text waiting
	for i, l := range ls {
		reads := len(levels) == 0 || levels[len(levels)-1].read
		if l.Kind == api.Text {
			if reads {
				text.add(i, l)
			}
			continue
		}
		x.flush(n, &text)
		levels = x.line(api.Fault{File: n, Line: i}, l, levels, reads)
	}
	x.flush(n, &text)
	x.running--
}

func (w *waiting) add(i int, l api.Line) {
	if !w.begun {
		w.begun, w.first = true, i
	} else {
		w.toks = append(w.toks, api.Tok{Kind: api.Newline, Text: "\n"})
	}
	w.toks = append(w.toks, l.Toks...)
}

// must throws an error at a place, if it is one.
func must(at api.Fault, e api.Errno) {
	if e != api.OK {
		at.E = e
		panic(at)
	}
}

// unmatched throws what is wrong with conditionals.
func unmatched(n int, ls []api.Line) {
	var open []int
	var ended []bool
	for i, l := range ls {
		last := len(open) - 1
		switch l.Kind {
		case api.If, api.Ifdef, api.Ifndef:
			open, ended = append(open, i), append(ended, false)
			continue
		case api.Elif, api.Else, api.Endif:
			if last < 0 || l.Kind != api.Endif && ended[last] {
				must(api.Fault{File: n, Line: i}, api.ErrElse)
			}
			ended[last] = l.Kind == api.Else
		}
		if l.Kind == api.Endif {
			open, ended = open[:last], ended[:last]
		}
	}
	if len(open) > 0 {
		must(api.Fault{File: n, Line: open[len(open)-1]}, api.ErrOpen)
	}
}

func (x *teller) flush(n int, w *waiting) {
	if !w.begun {
		return
	}
	at := api.Fault{File: n, Line: w.first}
	l, e := expand.Expand(x.ms, w.toks)
	must(at, e)
	if len(l) > 0 {
		l[0].Blank = true
	}
	x.out = append(x.out, l...)
	if len(x.out) > 4000 {
		must(at, api.ErrSteps)
	}
	*w = waiting{}
}

// line does what a line says that is no text, and tells what is open behind it.
func (x *teller) line(at api.Fault, l api.Line, levels []level, reads bool) []level {
	last := len(levels) - 1
	switch l.Kind {
	case api.If, api.Ifdef, api.Ifndef:
		holds := reads && x.condition(at, l)
		return append(levels, level{reads, holds, holds})
	case api.Elif, api.Else:
		c := levels[last]
		c.read = c.outer && !c.held && x.condition(at, l)
		c.held = c.held || c.read
		return append(levels[:last], c)
	case api.Endif:
		return levels[:last]
	}
	if reads {
		x.directive(at, l)
	}
	return levels
}

func (x *teller) directive(at api.Fault, l api.Line) {
	switch l.Kind {
	case api.Define:
		m, e := macro.Define(l.Toks)
		must(at, e)
		if i := x.macroOf(m.Name); i >= 0 && !macro.Same(x.ms[i], m) {
			must(at, api.ErrRedef)
		}
		x.forget(m.Name)
		x.ms = append(x.ms, m)
	case api.Undef:
		if len(l.Toks) != 1 || l.Toks[0].Kind != api.Ident || l.Toks[0].Text == "defined" || l.Toks[0].Text == "__VA_ARGS__" {
			must(at, api.ErrName)
		}
		x.forget(l.Toks[0].Text)
	case api.Include:
		path, _, e := direct.Target(l)
		must(at, e)
		n := x.find(path)
		if n < 0 {
			must(at, api.ErrMissing)
		}
		if x.running >= 8 || x.includes >= 60 {
			must(at, api.ErrDepth)
		}
		x.includes++
		x.file(n)
	case api.Error:
		must(at, api.ErrError)
	case api.Unknown:
		must(at, api.ErrDirective)
	}
}

func (x *teller) condition(at api.Fault, l api.Line) bool {
	switch l.Kind {
	case api.Ifdef, api.Ifndef:
		if len(l.Toks) != 1 || l.Toks[0].Kind != api.Ident {
			must(at, api.ErrName)
		}
		return x.macroOf(l.Toks[0].Text) >= 0 == (l.Kind == api.Ifdef)
	case api.Else:
		return true
	}
	var names []string
	for _, m := range x.ms {
		names = append(names, m.Name)
	}
	toks, e := ifexpr.Defined(l.Toks, names)
	must(at, e)
	toks, e = expand.Expand(x.ms, toks)
	must(at, e)
	n, e := ifexpr.Eval(toks)
	must(at, e)
	return n != 0
}
