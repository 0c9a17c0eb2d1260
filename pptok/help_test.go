package pptok_test

import (
	"regexp"
	"strings"

	"emend/api"
	"emend/splice"
)

const pair = "\\\n"

// signList are the chapter's signs, the longer ones first.
const signList = "... <<= >>= -> ++ -- << >> <= >= == != && || *= /= %= += -= &= ^= |= ## " +
	"[ ] ( ) { } . & * + - ~ ! / % < > ^ | ? : ; = , #"

// rules are the chapter's eight, in their order; a group's number tells which one it was.
var rules = regexp.MustCompile(`^(?:` +
	`([ \t\v\f\r]|//[^\n]*|/\*(?s:.*?)\*/)` +
	`|(\n)` +
	`|([A-Za-z_][A-Za-z_0-9]*)` +
	`|(\.?[0-9](?:[eEpP][+-]|[A-Za-z_0-9.])*)` +
	`|("(?:\\[^\n]|[^"\\\n])*")` +
	`|('(?:\\[^\n]|[^'\\\n])+')` +
	`|(` + strings.ReplaceAll(regexp.QuoteMeta(signList), " ", "|") + `)` +
	`|((?s:.))` +
	`)`)

// kindOf is the kind of each rule; a blank is none.
var kindOf = []int{0, 0, api.Newline, api.Ident, api.Number, api.Str, api.Quote, api.Punct, api.Other}

// told tells what Tokens must tell, by the rules.
func told(file int, text string) []api.Tok {
	// A rune a byte, since the rules speak of bytes.
	var left []rune
	for _, c := range splice.Join(text) {
		left = append(left, rune(c.B))
	}
	var out []api.Tok
	blank := false
	for at := 0; at < len(left); {
		kind, n := rule(string(left[at:]))
		if kind == 0 {
			blank = true
		} else {
			out = append(out, api.Tok{Kind: kind, Text: bytesOf(left[at : at+n]), File: file, Blank: blank})
			t := &out[len(out)-1]
			t.From, t.To, _ = splice.Span(text, at, at+n)
			blank = false
		}
		at += n
	}
	return out
}

// rule is the kind of the first rule that applies, and how many runes it takes.
func rule(left string) (kind, n int) {
	m := rules.FindStringSubmatchIndex(left)
	for g := 1; g < len(kindOf); g++ {
		if m[2*g] >= 0 {
			kind = kindOf[g]
		}
	}
	return kind, len([]rune(left[:m[1]]))
}

func bytesOf(l []rune) string {
	out := make([]byte, 0, len(l))
	for _, r := range l {
		out = append(out, byte(r))
	}
	return string(out)
}

// textsUpTo are all texts of the letters, of at most so many bytes.
func textsUpTo(letters string, most int) []string {
	out := []string{""}
	last := out
	for range most {
		var next []string
		for _, s := range last {
			for _, b := range []byte(letters) {
				next = append(next, s+string([]byte{b}))
			}
		}
		out = append(out, next...)
		last = next
	}
	return out
}

// everyKind are texts in which the rules meet: all short ones of the bytes that a rule or two speak of, all of two bytes, all of three bytes of signs, and longer ones.
func everyKind() []string {
	out := textsUpTo("a/* \\\n", 6)
	out = append(out, textsUpTo("a\"'\\\n", 6)...)
	out = append(out, textsUpTo("\"/*\n\\", 6)...)
	out = append(out, textsUpTo("1.e+x", 6)...)
	out = append(out, textsUpTo("_0E-Pp.", 4)...)
	out = append(out, textsUpTo("<>=.-#", 5)...)
	out = append(out, textsUpTo("[](){}.&*+-~!/%<>^|?:;=,#", 3)...)
	for a := range 256 {
		for b := range 256 {
			out = append(out, string([]byte{byte(a), byte(b)}))
		}
	}
	return append(out, longer()...)
}

func longer() []string {
	every := make([]byte, 0, 256)
	for b := range 256 {
		every = append(every, byte(b))
	}
	program := "#define MAX(a, b) \\\n\t((a) > (b) ? (a) : (b)) // the greater\n" +
		"#if defined(A) && A >= 0x1F'000u /* or\n so */\nstatic const char *s = \"a\\\"\\\\b\\\nc\" L\"\" 'x' '\\'';\r\n#endif\n" +
		"int f(void) { return x->y.z[1.5e-3f] <<= ~0 % 3, ...; }\n"
	return []string{
		string(every), program, splice.Spread("int x; /* y */ 'z' \"w\"", []int{0, 1, 2, 3, 5, 8, 9, 10, 13, 14, 16, 17, 19, 20, 22, 99}),
		strings.Repeat("a", 3000), strings.Repeat("'", 3000), strings.Repeat("/* ", 1000), strings.Repeat("\"\\", 1500),
		strings.Repeat(pair, 1000) + "a" + strings.Repeat(pair, 1000), "\"" + strings.Repeat("\\\"", 1500), "/*" + strings.Repeat("*", 3000) + "/b",
	}
}

// shown is a list as a text: a blank ahead of each token that has one, its kind and its text in brackets.
func shown(l []api.Tok) string {
	var out strings.Builder
	for _, t := range l {
		if t.Blank {
			out.WriteByte(' ')
		}
		out.WriteString("[" + string(rune('0'+t.Kind)) + t.Text + "]")
	}
	return out.String()
}
