package unit

import (
	"maps"
	"slices"

	"emend/api"
	"emend/expand"
	"emend/ifexpr"
	"emend/macro"
)

// macros are those that were defined and not undefined since, by their names.
type macros map[string]api.Macro

func byName(l []api.Macro) macros {
	out := macros{}
	for _, m := range l {
		out[m.Name] = m
	}
	return out
}

// definable tells whether a token may be a macro's name.
func definable(t api.Tok) bool {
	return t.Kind == api.Ident && t.Text != "defined" && t.Text != "__VA_ARGS__"
}

func (ms macros) define(l []api.Tok) api.Errno {
	m, e := macro.Define(l)
	if e != api.OK {
		return e
	}
	if old, ok := ms[m.Name]; ok && !macro.Same(old, m) {
		return api.ErrRedef
	}
	// Also where they are the same: what comes of the name from here on was written here.
	ms[m.Name] = m
	return api.OK
}

func (ms macros) undefine(l []api.Tok) api.Errno {
	if len(l) != 1 || !definable(l[0]) {
		return api.ErrName
	}
	delete(ms, l[0].Text)
	return api.OK
}

// expanded are tokens with their macros replaced.
func (ms macros) expanded(l []api.Tok) ([]api.Tok, api.Errno) {
	return expand.Expand(ms.reached(l), l)
}

// holds tells whether the condition of a branch does, by the line that begins it.
func (ms macros) holds(l api.Line) (bool, api.Errno) {
	switch l.Kind {
	case api.Ifdef, api.Ifndef:
		if len(l.Toks) != 1 || l.Toks[0].Kind != api.Ident {
			return false, api.ErrName
		}
		_, has := ms[l.Toks[0].Text]
		return has == (l.Kind == api.Ifdef), api.OK
	case api.If, api.Elif:
		n, e := ms.value(l.Toks)
		return n != 0, e
	}
	return true, api.OK
}

// value is what the tokens of a condition come to.
func (ms macros) value(l []api.Tok) (int64, api.Errno) {
	l, e := ifexpr.Defined(l, expand.Names(ms.reached(l)))
	if e != api.OK {
		return 0, e
	}
	if l, e = ms.expanded(l); e != api.OK {
		return 0, e
	}
	return ifexpr.Eval(l)
}

// reached are the macros that may be replaced in tokens: those that they name, and those that these ones' bodies name. All of them would do, but whoever is handed them goes through them: for many lines that takes the product of both numbers.
func (ms macros) reached(l []api.Tok) []api.Macro {
	var out []api.Macro
	known := map[string]struct{}{}
	add := func(l []api.Tok) {
		for _, t := range l {
			m, ok := ms[t.Text]
			if _, again := known[t.Text]; ok && !again {
				known[t.Text] = struct{}{}
				out = append(out, m)
			}
		}
	}
	add(l)
	for i := 0; i < len(out); i++ {
		if slices.ContainsFunc(out[i].Body, pastes) {
			// A name that is made of two may be any one.
			return ms.all()
		}
		add(out[i].Body)
	}
	return out
}

func pastes(t api.Tok) bool {
	return t.Kind == api.Punct && t.Text == "##"
}

// all are the macros in an order that does not hang on the map's.
func (ms macros) all() []api.Macro {
	var out []api.Macro
	for _, name := range slices.Sorted(maps.Keys(ms)) {
		out = append(out, ms[name])
	}
	return out
}
