package presence

import (
	"slices"

	"emend/api"
	"emend/bdd"
	"emend/expand"
	"emend/ifexpr"
	"emend/unit"
	"emend/world"
)

// begins tells whether lines of a kind begin a branch.
func begins(kind int) bool {
	switch kind {
	case api.If, api.Ifdef, api.Ifndef, api.Elif, api.Else:
		return true
	}
	return false
}

// question is what a branch's line asks for, and where it is asked. Nothing is made in the arena until it is known that there is no error.
type question struct {
	arena *bdd.Arena
	names []string
	toks  []api.Tok
	asked bdd.Node
}

// named is where the one name that is asked for is in the set, or is not.
func (q question) named(in bool) (bdd.Node, api.Errno) {
	if len(q.toks) != 1 || q.toks[0].Kind != api.Ident {
		return never, api.ErrName
	}
	place := slices.Index(q.names, q.toks[0].Text)
	if place < 0 {
		return never, api.ErrMixed
	}
	n, _ := q.arena.Var(place)
	if !in {
		n, _ = q.arena.Not(n)
	}
	return q.arena.And(q.asked, n)
}

// valued is where the value of the expression that is asked for is not 0.
func (q question) valued() (bdd.Node, api.Errno) {
	own, e := q.own()
	if e != api.OK {
		return never, e
	}
	// Names that the line doesn't have change no value, so that sets that differ in these alone share one.
	values := map[int]int64{}
	each(q.arena, q.asked, func(set int) bool {
		part := set & own
		if _, known := values[part]; !known {
			values[part], e = q.value(part)
		}
		return e == api.OK
	})
	if e != api.OK {
		return never, e
	}
	n := decided(q.arena, own, 0, func(part int) bool { return values[part] != 0 })
	return q.arena.And(q.asked, n)
}

// own is the set of the names that the line has.
func (q question) own() (int, api.Errno) {
	var words []string
	for _, t := range q.toks {
		if t.Kind == api.Ident && t.Text != "defined" {
			words = append(words, t.Text)
		}
	}
	set, e := world.Set(q.names, words)
	if e != api.OK {
		return 0, api.ErrMixed
	}
	return set, api.OK
}

// value is what the expression comes to with a set's names.
func (q question) value(set int) (int64, api.Errno) {
	defs, e := world.Defs(q.names, set)
	if e != api.OK {
		return 0, e
	}
	l, e := ifexpr.Defined(q.toks, defs)
	if e != api.OK {
		return 0, e
	}
	macros, e := unit.First(defs)
	if e != api.OK {
		return 0, e
	}
	if l, e = expand.Expand(macros, l); e != api.OK {
		return 0, e
	}
	return ifexpr.Eval(l)
}
