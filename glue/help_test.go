package glue_test

import (
	"regexp"
	"strings"

	"emend/api"
)

// letter is what one stands for: a token's kind and text, and the text as it stands within a string.
type letter struct {
	kind          int
	text, guarded string
}

// letters stand for tokens, so that a list of them is a text that regular expressions can be held against; a great letter is the small one's token with Blank.
// Many are of no text: their kind is none, or their text none of that kind's.
var letters = map[byte]letter{
	'a': {api.Ident, "ab", "ab"},
	'b': {api.Number, "1.e+5", "1.e+5"},
	'c': {api.Punct, "+", "+"},
	'd': {api.Str, `""`, `\"\"`},
	'e': {api.Str, `"\"x\\"`, `\"\\\"x\\\\\"`},
	'f': {api.Quote, `'"'`, `'\"'`},
	'g': {api.Quote, `'\\\''`, `'\\\\\\''`},
	'h': {api.Other, `\`, `\`},
	'i': {api.Other, `"`, `"`},
	'j': {api.Ident, `\"x"\`, `\"x"\`},
	'k': {api.Str, `\"x"\`, `\\\"x\"\\`},
	'l': {api.Quote, `"`, `\"`},
	'm': {api.Str, "", ""},
	'n': {api.Newline, "\n", ""},
	'o': {api.Ident, "", ""},
	'p': {api.Punct, `\`, `\`},
	'q': {api.Ident, "\n", "\n"},
	'r': {0, `"`, `"`},
	's': {-4, `\`, `\`},
	't': {8, ` " `, ` " `},
	'u': {256 + api.Str, `"`, `"`},
	'v': {1<<32 + api.Newline, `\`, `\`},
	'w': {api.Number, `"\`, `"\`},
	'x': {api.Quote, "", ""},
	'y': {api.Str, "\n\xff\x00\\", "\n\xff\x00\\\\"},
	'z': {api.Newline, `"x\`, ""},
}

const (
	small = "abcdefghijklmnopqrstuvwxyz"
	great = "ABCDEFGHIJKLMNOPQRSTUVWXYZ"
)

// toks are those that letters stand for, each at a place of its own.
func toks(s string) []api.Tok {
	out := make([]api.Tok, 0, len(s))
	for i := range len(s) {
		x := letters[s[i]|32]
		out = append(out, api.Tok{Kind: x.kind, Text: x.text, File: i%3 - 1, From: 10 * i, To: 10*i + len(x.text), Blank: s[i]&32 == 0})
	}
	return out
}

// grown are all texts that begin with a text and have at most so many letters behind it.
func grown(text, letters string, most int) []string {
	out := []string{text}
	for i := range len(letters) {
		if most > 0 {
			out = append(out, grown(text+letters[i:i+1], letters, most-1)...)
		}
	}
	return out
}

// manyLists are lists of letters in which Newlines and blanks stand everywhere, and all kinds beside one another.
func manyLists() []string {
	return append(grown("", small+great, 3), grown("", "aAmnNz", 6)...)
}

var (
	outer = regexp.MustCompile(`^[nNzZ]+|[nNzZ]+$`)
	inner = regexp.MustCompile(`[nNzZ]+[^nNzZ]`)
)

// told tells what Text must tell of letters, and what String must have in its quotes, by G1's and G2's words.
func told(s string) (text, within string) {
	s = outer.ReplaceAllString(s, "")
	s = inner.ReplaceAllStringFunc(s, func(x string) string { return strings.ToUpper(x[len(x)-1:]) })
	for i := range len(s) {
		if strings.Contains(great, s[i:i+1]) && i > 0 {
			text += " "
			within += " "
		}
		text += letters[s[i]|32].text
		within += letters[s[i]|32].guarded
	}
	return text, within
}
