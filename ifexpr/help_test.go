package ifexpr_test

import (
	"strings"
	"testing"

	"emend/api"
	"emend/ifexpr"
	"emend/pptok"
)

// values are texts, and what they come to.
type values map[string]int64

// hold checks that texts come to their values.
func (v values) hold(t *testing.T) {
	t.Helper()
	for s, want := range v {
		if n, e := ifexpr.Eval(pptok.Tokens(0, s)); n != want || e != api.OK {
			t.Errorf("%q: %d, %d, not %d", s, n, e, want)
		}
	}
}

// fail checks that texts come to an error, and to no value beside it.
func fail(t *testing.T, want api.Errno, texts ...string) {
	t.Helper()
	for _, s := range texts {
		if n, e := ifexpr.Eval(pptok.Tokens(0, s)); n != 0 || e != want {
			t.Errorf("%q: %d, %d, not %d", s, n, e, want)
		}
	}
}

// odd are words that stand for tokens that are like another one but in their kind.
var odd = map[string]api.Tok{
	"newline":       {Kind: api.Newline, Text: "\n"},
	"newline+":      {Kind: api.Newline, Text: "+"},
	"other(":        {Kind: api.Other, Text: "("},
	"other)":        {Kind: api.Other, Text: ")"},
	"ident+":        {Kind: api.Ident, Text: "+"},
	"ident(":        {Kind: api.Ident, Text: "("},
	"ident1":        {Kind: api.Ident, Text: "1"},
	"other-defined": {Kind: api.Other, Text: "defined"},
	"punct-defined": {Kind: api.Punct, Text: "defined"},
	"string1":       {Kind: api.Str, Text: "1"},
	"string+":       {Kind: api.Str, Text: "+"},
	"punct1":        {Kind: api.Punct, Text: "1"},
	"punctX":        {Kind: api.Punct, Text: "X"},
	"number'a":      {Kind: api.Number, Text: "'a'"},
	"number+":       {Kind: api.Number, Text: "+"},
	"numberX":       {Kind: api.Number, Text: "X"},
	"quote1":        {Kind: api.Quote, Text: "1"},
	"none1":         {Text: "1"},
	"eight+":        {Kind: 8, Text: "+"},
	"below(":        {Kind: -1, Text: "("},
	"great+":        {Kind: 256 + api.Punct, Text: "+"},
}

// toks are the tokens of words with blanks between, each at a place of its own.
func toks(words string) []api.Tok {
	var out []api.Tok
	for i, w := range strings.Fields(words) {
		t, ok := odd[w]
		if !ok {
			if t, ok = pptok.One(w); !ok {
				panic("no token: " + w)
			}
		}
		t.File, t.From, t.To, t.Blank = i%3-1, 10*i, 10*i+len(t.Text), i%2 == 1
		out = append(out, t)
	}
	return out
}

// eachList hands over all lists of tokens, of at most so many; what is handed over is good till the next one comes.
func eachList(from []api.Tok, most int, do func(l []api.Tok)) {
	l := make([]api.Tok, 0, most)
	var grow func()
	grow = func() {
		do(l)
		if len(l) == most {
			return
		}
		for _, t := range from {
			l = append(l, t)
			grow()
			l = l[:len(l)-1]
		}
	}
	grow()
}

// texts are all texts of the bytes, of at most so many.
func texts(bytes string, most int) []string {
	out := []string{""}
	for begun := 0; most > 0; most-- {
		for ended := len(out); begun < ended; begun++ {
			for i := range len(bytes) {
				out = append(out, out[begun]+bytes[i:i+1])
			}
		}
	}
	return out
}

// shown are the texts of tokens, with a blank between each two.
func shown(l []api.Tok) string {
	var out []string
	for _, t := range l {
		out = append(out, t.Text)
	}
	return strings.Join(out, " ")
}
