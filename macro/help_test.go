package macro_test

import (
	"regexp"
	"slices"
	"strconv"
	"strings"

	"emend/api"
	"emend/macro"
	"emend/pptok"
)

const va = "__VA_ARGS__"

// letters stand for tokens, so that a list of them is a text that regular expressions can be held against.
// Each that is like another one differs from it in one thing: its kind, its text, or its blank.
var letters = map[byte]api.Tok{
	'a': {Kind: api.Ident, Text: "a"},
	'A': {Kind: api.Ident, Text: "a", Blank: true},
	'b': {Kind: api.Ident, Text: "b"},
	'd': {Kind: api.Ident, Text: "defined"},
	'D': {Kind: api.Ident, Text: "defined", Blank: true},
	'v': {Kind: api.Ident, Text: va},
	'V': {Kind: api.Ident, Text: va, Blank: true},
	'z': {Kind: api.Ident},
	's': {Kind: api.Str, Text: "a"},
	'w': {Kind: api.Other, Text: va},
	'(': {Kind: api.Punct, Text: "("},
	'{': {Kind: api.Punct, Text: "(", Blank: true},
	'[': {Kind: api.Other, Text: "("},
	')': {Kind: api.Punct, Text: ")"},
	'}': {Kind: api.Punct, Text: ")", Blank: true},
	']': {Kind: api.Other, Text: ")"},
	',': {Kind: api.Punct, Text: ","},
	';': {Kind: api.Punct, Text: ",", Blank: true},
	'c': {Kind: api.Other, Text: ","},
	'.': {Kind: api.Punct, Text: "..."},
	':': {Kind: api.Punct, Text: "...", Blank: true},
	'e': {Kind: api.Other, Text: "..."},
	'#': {Kind: api.Punct, Text: "#"},
	'%': {Kind: api.Punct, Text: "#", Blank: true},
	'h': {Kind: api.Other, Text: "#"},
	'$': {Kind: api.Punct, Text: "##"},
	'&': {Kind: api.Punct, Text: "##", Blank: true},
	'p': {Kind: api.Other, Text: "##"},
	'1': {Kind: api.Number, Text: "1"},
	'2': {Kind: api.Number, Text: "1", Blank: true},
	'q': {Kind: api.Quote, Text: "'x'", Blank: true},
	'n': {Kind: api.Newline, Text: "\n"},
}

// allLetters are those of letters.
const allLetters = "aAbdDvVzsw({[)}],;c.:e#%h$&p12qn"

// toks are those that letters stand for, each at a place of its own.
func toks(s string) []api.Tok {
	out := make([]api.Tok, 0, len(s))
	for i := range len(s) {
		t, ok := letters[s[i]]
		if !ok {
			panic("no token for " + s[i:i+1])
		}
		t.File, t.From, t.To = i%3, 10*i, 10*i+len(t.Text)
		out = append(out, t)
	}
	return out
}

// textsUpTo are all texts of the pieces, of at most so many of them.
func textsUpTo(pieces []string, most int) []string {
	out := []string{""}
	last := out
	for range most {
		var next []string
		for _, s := range last {
			for _, p := range pieces {
				next = append(next, s+p)
			}
		}
		out = append(out, next...)
		last = next
	}
	return out
}

// behind are the texts, each with a beginning ahead.
func behind(begins string, texts []string) []string {
	var out []string
	for _, s := range texts {
		out = append(out, begins+s)
	}
	return out
}

// manyLists are lists in which names, brackets and bodies are right and wrong in every way.
func manyLists() []string {
	split := func(s string) []string { return strings.Split(s, "") }
	out := textsUpTo(split(allLetters), 3)
	out = append(out, behind("a(", textsUpTo(split("ab,.)v#"), 5))...)
	out = append(out, behind("a(", textsUpTo(split("Az;:}dDsce]wn"), 4))...)
	out = append(out, behind("a(a", textsUpTo(split(",;.:)}bv"), 5))...)
	bodies := textsUpTo(split("abv#$1"), 5)
	most := textsUpTo(split(allLetters), 2)
	for _, begins := range []string{"a(", "a()", "a(a)", "a(.)", "a(b,.)", "d(a)", "a2", "A2", "a"} {
		out = append(out, behind(begins, bodies)...)
		out = append(out, behind(begins+"a", most)...)
		out = append(out, behind(begins, most)...)
	}
	return out
}

var (
	named   = regexp.MustCompile(`^[aAbz]`)
	opened  = regexp.MustCompile(`^.\(`)
	listed  = regexp.MustCompile(`^.\(((?:[aAbdDz][,;])*[aAbdDz]|(?:[aAbdDz][,;])*[.:]|)[)}](.*)$`)
	grown   = regexp.MustCompile(`^.[^ADV{};:%&2q]`)
	pasting = regexp.MustCompile(`^[$&]|[$&]$`)
	behindA = regexp.MustCompile(`^.(.*)$`)
)

// told tells what Define must tell of the tokens that letters stand for, by F1's words.
func told(s string) (m api.Macro, e api.Errno) {
	if !named.MatchString(s) {
		return m, api.ErrName
	}
	var params []string
	var variadic bool
	body := behindA.FindStringSubmatch(s)[1]
	fun := opened.MatchString(s)
	if fun {
		list := listed.FindStringSubmatch(s)
		if list == nil {
			return m, api.ErrParams
		}
		params, variadic = parted(list[1])
		if unlike := slices.Compact(slices.Sorted(slices.Values(params))); len(unlike) < len(params) {
			return m, api.ErrParams
		}
		body = list[2]
	} else if grown.MatchString(s) {
		return m, api.ErrBlank
	}
	if pasting.MatchString(body) {
		return m, api.ErrPaste
	}
	if fun && unaimed(params, variadic).MatchString(body) {
		return m, api.ErrHash
	}
	if !variadic && strings.ContainsAny(body, "vV") {
		return m, api.ErrVa
	}
	m = api.Macro{Name: letters[s[0]].Text, Func: fun, Params: params, Variadic: variadic}
	m.Body = slices.Clone(toks(s)[len(s)-len(body):])
	if len(m.Body) > 0 {
		m.Body[0].Blank = false
	}
	return m, api.OK
}

// parted tells the parameters of what stands in brackets.
func parted(list string) (params []string, variadic bool) {
	for _, x := range strings.FieldsFunc(list, func(r rune) bool { return r == ',' || r == ';' }) {
		if x == "." || x == ":" {
			variadic = true
		} else {
			params = append(params, letters[x[0]].Text)
		}
	}
	return params, variadic
}

// unaimed finds a `#` that no parameter stands right behind.
func unaimed(params []string, variadic bool) *regexp.Regexp {
	if variadic {
		params = append(slices.Clone(params), va)
	}
	aims := ""
	for b, t := range letters {
		if t.Kind == api.Ident && slices.Contains(params, t.Text) {
			aims += string([]byte{b})
		}
	}
	if aims == "" {
		return regexp.MustCompile(`[#%]`)
	}
	return regexp.MustCompile(`[#%](?:[^` + aims + `]|$)`)
}

// sameMacro tells whether two are alike in all, places too.
func sameMacro(a, b api.Macro) bool {
	return a.Name == b.Name && a.Func == b.Func && a.Variadic == b.Variadic && slices.Equal(a.Params, b.Params) && slices.Equal(a.Body, b.Body)
}

// shown tells all of a macro by which Same may tell two apart.
func shown(m api.Macro) string {
	out := strconv.Quote(m.Name) + strconv.FormatBool(m.Func) + strconv.FormatBool(m.Variadic)
	for _, p := range m.Params {
		out += strconv.Quote(p)
	}
	out += ":"
	for i, t := range m.Body {
		out += " " + strconv.Itoa(t.Kind) + strconv.Quote(t.Text) + strconv.FormatBool(t.Blank && i > 0)
	}
	return out
}

// define is Define of a text.
func define(s string) (api.Macro, api.Errno) {
	return macro.Define(pptok.Tokens(0, s))
}
