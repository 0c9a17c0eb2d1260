package expand_test

import (
	"slices"
	"strings"
	"testing"

	"emend/api"
	"emend/expand"
	"emend/macro"
	"emend/pptok"
)

const va = "__VA_ARGS__"

// toks are tokens of letters, a letter each, so that all short lists can be gone through: a blank is the next token's Blank, a line end a Newline. Each stands at a place of its own.
func toks(file int, letters string) []api.Tok {
	out := make([]api.Tok, 0, len(letters))
	blank := false
	for i := range len(letters) {
		if letters[i] == ' ' {
			blank = true
			continue
		}
		t := letter(letters[i])
		t.File, t.From, t.To, t.Blank = file, 10*i, 10*i+len(t.Text), blank
		out = append(out, t)
		blank = false
	}
	return out
}

// letter is the token of one: of those that are like another one but in their kind, too.
func letter(b byte) api.Tok {
	switch b {
	case 'V':
		return api.Tok{Kind: api.Ident, Text: va}
	case '$':
		return api.Tok{Kind: api.Punct, Text: "##"}
	case '.':
		return api.Tok{Kind: api.Punct, Text: "..."}
	case '\n':
		return api.Tok{Kind: api.Newline, Text: "\n"}
	case '"':
		return api.Tok{Kind: api.Str, Text: `"s\"`}
	case '\'':
		return api.Tok{Kind: api.Str, Text: "F"}
	case '[':
		return api.Tok{Kind: api.Other, Text: "("}
	case ']':
		return api.Tok{Kind: api.Ident, Text: ")"}
	case ';':
		return api.Tok{Kind: api.Other, Text: ","}
	case '!':
		return api.Tok{Kind: api.Other, Text: "##"}
	}
	if b >= '0' && b <= '9' {
		return api.Tok{Kind: api.Number, Text: string([]byte{b})}
	}
	if strings.IndexByte("(),#+<", b) >= 0 {
		return api.Tok{Kind: api.Punct, Text: string([]byte{b})}
	}
	return api.Tok{Kind: api.Ident, Text: string([]byte{b})}
}

// listsUpTo are all texts of the letters, of at most so many.
func listsUpTo(letters string, most int) []string {
	out := []string{""}
	last := out
	for range most {
		var next []string
		for _, s := range last {
			for i := range len(letters) {
				next = append(next, s+letters[i:i+1])
			}
		}
		out = append(out, next...)
		last = next
	}
	return out
}

// defined are the macros of definitions, each in a file of its own, from 1 on.
func defined(t *testing.T, defs ...string) []api.Macro {
	t.Helper()
	var ms []api.Macro
	for i, d := range defs {
		m, e := macro.Define(pptok.Tokens(i+1, d))
		if e != api.OK {
			t.Fatalf("Define of %q: %d", d, e)
		}
		ms = append(ms, m)
	}
	return ms
}

// shown is a list as a text: of each token whether it has Blank, by a byte ahead of it, and its text; a Newline's is an N in brackets.
func shown(l []api.Tok) string {
	var out strings.Builder
	for i, t := range l {
		if t.Blank {
			out.WriteByte(' ')
		} else if i > 0 {
			out.WriteByte('|')
		}
		if t.Kind == api.Newline {
			t.Text = "<N>"
		}
		out.WriteString(t.Text)
	}
	return out.String()
}

// example is a text, what is shown of what comes of it, and the macros.
type example struct {
	text, want string
	defs       []string
}

// hold checks that examples come to what they should.
func hold(t *testing.T, all []example) {
	t.Helper()
	for _, x := range all {
		got, e := expand.Expand(defined(t, x.defs...), pptok.Tokens(0, x.text))
		if shown(got) != x.want || e != api.OK {
			t.Errorf("%q of %q: %q, %d, not %q", x.defs, x.text, shown(got), e, x.want)
		}
	}
}

// fault is a text, the error that it comes to, and the macros.
type fault struct {
	text string
	e    api.Errno
	defs []string
}

// fail checks that texts come to errors, and to no tokens beside them.
func fail(t *testing.T, all []fault) {
	t.Helper()
	for _, x := range all {
		got, e := expand.Expand(defined(t, x.defs...), pptok.Tokens(0, x.text))
		if len(got) > 0 || e != x.e {
			t.Errorf("%q of %q: %q, %d, not %d", x.defs, x.text, shown(got), e, x.e)
		}
	}
}

// same holds what Expand tells of a list against what the chapter's words tell.
func same(t *testing.T, ms []api.Macro, l []api.Tok) api.Errno {
	t.Helper()
	got, e := expand.Expand(ms, l)
	want, f := told(ms, l)
	if e != f || !slices.Equal(got, want) {
		t.Fatalf("%+v, of %+v: %+v, %d, not %+v, %d", l, ms, got, e, want, f)
	}
	return e
}
