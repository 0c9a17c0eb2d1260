package direct_test

import (
	"regexp"
	"slices"
	"strings"

	"emend/api"
)

// theWords are the chapter's, the first of kind 2.
const theWords = "if ifdef ifndef elif else endif define undef include error pragma line"

// letters stand for tokens, so that a list of them is a text that regular expressions can be held against.
// Each that is like another one differs from it in one thing: its kind, its text, or its blank.
var letters = map[byte]api.Tok{
	'n': {Kind: api.Newline, Text: "\n"},
	'N': {Kind: api.Newline, Text: "#", Blank: true},
	'm': {Kind: api.Other, Text: "\n"},
	'#': {Kind: api.Punct, Text: "#"},
	'%': {Kind: api.Punct, Text: "#", Blank: true},
	'$': {Kind: api.Punct, Text: "##"},
	'h': {Kind: api.Other, Text: "#"},
	'i': {Kind: api.Ident, Text: "if"},
	'I': {Kind: api.Ident, Text: "line", Blank: true},
	's': {Kind: api.Str, Text: "if"},
	'z': {Kind: api.Ident, Text: "iff"},
	'e': {Kind: api.Ident},
	'<': {Kind: api.Punct, Text: "<"},
	'{': {Kind: api.Punct, Text: "<", Blank: true},
	'l': {Kind: api.Other, Text: "<"},
	'>': {Kind: api.Punct, Text: ">"},
	'}': {Kind: api.Punct, Text: ">", Blank: true},
	'g': {Kind: api.Other, Text: ">"},
	'G': {Kind: api.Punct, Text: ">>", Blank: true},
	'q': {Kind: api.Str, Text: "\"a.h\""},
	'Q': {Kind: api.Str, Text: "\"\"", Blank: true},
	'p': {Kind: api.Quote, Text: "\"a.h\""},
	'a': {Kind: api.Ident, Text: "a"},
	'A': {Kind: api.Ident, Text: "A", Blank: true},
	'E': {Kind: api.Other, Blank: true},
}

// toks are those that letters stand for, each at a place of its own.
func toks(s string) []api.Tok {
	out := make([]api.Tok, 0, len(s))
	for i := range len(s) {
		t, ok := letters[s[i]]
		if !ok {
			panic("no token for " + s[i:i+1])
		}
		t.File, t.From, t.To = i%3, 10*i, 10*i+len(t.Text)
		out = append(out, t)
	}
	return out
}

// textsUpTo are all texts of the letters, of at most so many bytes.
func textsUpTo(letters string, most int) []string {
	out := []string{""}
	last := out
	for range most {
		var next []string
		for _, s := range last {
			for _, b := range []byte(letters) {
				next = append(next, s+string([]byte{b}))
			}
		}
		out = append(out, next...)
		last = next
	}
	return out
}

// manyLists are lists in which lines end, begin and go on in every way.
func manyLists() []string {
	out := textsUpTo("n#iza", 6)
	out = append(out, textsUpTo("nNm#%$hiIsze", 4)...)
	return append(out, strings.Repeat("n", 3000), strings.Repeat("#", 3000), strings.Repeat("#in", 1000), strings.Repeat("an", 1500)+"%I")
}

var oneLine = regexp.MustCompile(`[^nN]*[nN]|[^nN]+$`)

// forms tell a line's kind in the order in which they are tried; the group is what it is about.
var forms = []struct {
	form *regexp.Regexp
	kind int
}{
	{regexp.MustCompile(`^[#%]()$`), api.Null},
	{regexp.MustCompile(`^[#%]i(.*)$`), api.If},
	{regexp.MustCompile(`^[#%]I(.*)$`), api.LineNo},
	{regexp.MustCompile(`^[#%](.+)$`), api.Unknown},
	{regexp.MustCompile(`^(.*)$`), api.Text},
}

// told tells what Lines must tell of the tokens that letters stand for, by D2's words.
func told(s string) []api.Line {
	l := toks(s)
	var out []api.Line
	for _, place := range oneLine.FindAllStringIndex(s, -1) {
		line := strings.TrimRight(s[place[0]:place[1]], "nN")
		for _, f := range forms {
			if m := f.form.FindStringSubmatchIndex(line); m != nil {
				out = append(out, api.Line{Kind: f.kind, First: place[0], N: len(line), Toks: l[place[0]+m[2] : place[0]+m[3]]})
				break
			}
		}
	}
	return out
}

var (
	inAngles = regexp.MustCompile(`^[<{]([^>}]+)[>}]$`)
	inQuotes = regexp.MustCompile(`^[qQ]$`)
)

// aimed tells what Target must tell of an Include of the tokens that letters stand for, by D3's words.
func aimed(s string) (name string, angled bool, e api.Errno) {
	if inQuotes.MatchString(s) {
		return strings.Trim(letters[s[0]].Text, "\""), false, api.OK
	}
	m := inAngles.FindStringSubmatch(s)
	if m == nil {
		return "", false, api.ErrInclude
	}
	for i, t := range toks(m[1]) {
		if i > 0 && t.Blank {
			name += " "
		}
		name += t.Text
	}
	return name, true, api.OK
}

func sameLines(x, y []api.Line) bool {
	return slices.EqualFunc(x, y, func(x, y api.Line) bool {
		return x.Kind == y.Kind && x.First == y.First && x.N == y.N && slices.Equal(x.Toks, y.Toks)
	})
}
