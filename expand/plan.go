package expand

import "emend/api"

// va is the name that the arguments behind the last one of Params have.
const va = "__VA_ARGS__"

// What a piece of a body comes to.
const (
	itself = iota
	pasting
	quotedArg
	rawArg
	fullArg
)

// piece is a token of a body, or a `#` with the parameter behind it, and what that comes to.
type piece struct {
	api.Tok
	way   int
	param int
}

// use is what a body asks of an argument.
type use struct{ full, quoted bool }

// plan is how a macro is replaced: its place in hide sets, its body's pieces, and what the body asks of each argument.
type plan struct {
	number int
	pieces []piece
	uses   []use
}

func planOf(m api.Macro, number int) *plan {
	out := &plan{number: number, uses: make([]use, len(m.Params)+1)}
	params := paramsOf(m)
	for i := 0; i < len(m.Body); i++ {
		p := pieceOf(m, params, i)
		out.pieces = append(out.pieces, p)
		switch p.way {
		case quotedArg:
			out.uses[p.param].quoted = true
			// The parameter behind the sign is of the same piece.
			i++
		case fullArg:
			out.uses[p.param].full = true
		}
	}
	return out
}

// paramsOf are a macro's parameters and their places, none if it is not Func; macro.Param would go through all of them for each token of a body.
func paramsOf(m api.Macro) map[string]int {
	out := map[string]int{}
	if !m.Func {
		return out
	}
	for i, name := range m.Params {
		out[name] = i
	}
	if m.Variadic {
		out[va] = len(m.Params)
	}
	return out
}

// pieceOf is the piece that begins at a place of a body.
func pieceOf(m api.Macro, params map[string]int, i int) piece {
	t := m.Body[i]
	if sign(t, "##") {
		return piece{Tok: t, way: pasting}
	}
	if sign(t, "#") && i+1 < len(m.Body) {
		if at, ok := paramOf(m.Body[i+1], params); ok {
			return piece{Tok: t, way: quotedArg, param: at}
		}
	}
	at, ok := paramOf(t, params)
	switch {
	case !ok:
		return piece{Tok: t, way: itself}
	case i > 0 && sign(m.Body[i-1], "##"), i+1 < len(m.Body) && sign(m.Body[i+1], "##"):
		return piece{Tok: t, way: rawArg, param: at}
	}
	return piece{Tok: t, way: fullArg, param: at}
}

func paramOf(t api.Tok, params map[string]int) (int, bool) {
	at, ok := params[t.Text]
	return at, ok && t.Kind == api.Ident
}
