package glue_test

import (
	"slices"
	"strings"
	"testing"

	"emend/api"
	"emend/glue"
)

// The numbers that this layer tells are the document's.
func TestNumbers(t *testing.T) {
	if api.OK != 0 || api.ErrGlue != 70 {
		t.Error("errors")
	}
	for i, k := range []int{api.Ident, api.Number, api.Quote, api.Str, api.Punct, api.Other, api.Newline} {
		if k != i+1 {
			t.Errorf("%d is %d", i+1, k)
		}
	}
}

// R1: very many tokens, and very long ones, are read as few are, in little more steps than they have bytes.
func TestR1Many(t *testing.T) {
	const many = 1 << 18
	s := strings.Repeat("aNfC", many)
	l := toks(s)
	text := strings.Repeat("ab '\"' +", many)
	if got := glue.Text(l); got != text {
		t.Errorf("Text: %d bytes, not %d", len(got), len(text))
	}
	if got, ok := glue.Unquote(glue.String(l).Text); !ok || got != text {
		t.Errorf("unquoted: %d bytes, %v", len(got), ok)
	}
	if got := glue.Text(toks(strings.Repeat("n", many))); got != "" {
		t.Errorf("Text of Newlines: %d bytes", len(got))
	}
	name := strings.Repeat("a", many)
	if got, e := glue.Paste(api.Tok{Text: name}, api.Tok{Text: name}); e != api.OK || got.Text != name+name {
		t.Errorf("Paste: %d bytes, %d", len(got.Text), e)
	}
	quotes := strings.Repeat("\"", many)
	if got := glue.String([]api.Tok{{Kind: api.Quote, Text: quotes}}); got.Text != "\""+strings.Repeat("\\\"", many)+"\"" {
		t.Errorf("String: %d bytes", len(got.Text))
	}
	if got, ok := glue.Unquote("\"" + strings.Repeat("\\", 2*many+1) + "\""); ok || got != "" {
		t.Errorf("Unquote: %d bytes, %v", len(got), ok)
	}
}

// R3: with ErrGlue the token is its zero value, whatever the two have; and the text is empty where there is none.
func TestR3NothingWithAnError(t *testing.T) {
	for _, a := range toks(small + great) {
		for _, b := range toks(small + great) {
			if got, e := glue.Paste(a, b); e != api.OK && (e != api.ErrGlue || got != (api.Tok{})) {
				t.Errorf("Paste of %+v and %+v: %+v, %d", a, b, got, e)
			}
		}
	}
	for _, s := range grown("", "\"\\a", 7) {
		if got, ok := glue.Unquote(s); !ok && got != "" {
			t.Errorf("Unquote of %q: %q", s, got)
		}
	}
}

// R4: a nil list and an empty one are the same.
func TestR4NoTokens(t *testing.T) {
	for _, none := range [][]api.Tok{nil, {}, toks("ab")[:0]} {
		if got := glue.Text(none); got != "" {
			t.Errorf("Text: %q", got)
		}
		if got := glue.String(none); got != (api.Tok{Kind: api.Str, Text: "\"\""}) {
			t.Errorf("String: %+v", got)
		}
	}
}

// R5: what is handed in stays as it was, also what stands behind its end.
func TestR5NothingIsChanged(t *testing.T) {
	for _, s := range []string{"AeFnkLNzNfaMd", "nNzEe", "DDDD", "hIjRn"} {
		whole := toks(s)
		for n := range whole {
			glue.Text(whole[:n])
			glue.String(whole[:n])
			glue.Text(whole[n:])
			glue.String(whole[n:])
			glue.Paste(whole[n], whole[0])
		}
		if !slices.Equal(whole, toks(s)) {
			t.Errorf("the list %q is now %v", s, whole)
		}
	}
}

// R6: a call hangs on its arguments alone; an error, or a list that is changed behind the call, leaves nothing behind.
func TestR6NothingIsKept(t *testing.T) {
	const s = "AeFnkLNzNfaMd"
	text, within := told(s)
	for range 3 {
		l := toks(s)
		if got := glue.Text(l); got != text {
			t.Errorf("Text: %q, not %q", got, text)
		}
		if got := glue.String(l).Text; got != "\""+within+"\"" {
			t.Errorf("String: %q, not %q", got, within)
		}
		if got, ok := glue.Unquote("\"a\\\"b\""); !ok || got != "a\"b" {
			t.Errorf("Unquote: %q, %v", got, ok)
		}
		if got, e := glue.Paste(l[0], l[12]); e != api.ErrGlue {
			t.Errorf("Paste: %+v, %d", got, e)
		}
		for i := range l {
			l[i] = api.Tok{Kind: api.Newline, Text: "spoilt"}
		}
		glue.Text(l)
		glue.String(l)
		glue.Unquote("\"a\"b\"")
	}
}
