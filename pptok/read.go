package pptok

import (
	"strings"

	"emend/api"
)

// signs are all that there are; the longest is looked for, so that their order says nothing.
var signs = [...]string{
	"...", "<<=", ">>=",
	"->", "++", "--", "<<", ">>", "<=", ">=", "==", "!=", "&&", "||",
	"*=", "/=", "%=", "+=", "-=", "&=", "^=", "|=", "##",
	"[", "]", "(", ")", "{", "}", ".", "&", "*", "+", "-", "~", "!", "/",
	"%", "<", ">", "^", "|", "?", ":", ";", "=", ",", "#",
}

// blank is how long the blank is with which a text begins, 0 if it begins with none.
func blank(text string) int {
	switch text[0] {
	case ' ', '\t', '\v', '\f', '\r':
		return 1
	}
	return comment(text)
}

// comment is how long the comment is with which a text begins, 0 if it begins with none.
func comment(text string) int {
	if strings.HasPrefix(text, "//") {
		if end := strings.IndexByte(text, '\n'); end >= 0 {
			return end
		}
		return len(text)
	}
	if strings.HasPrefix(text, "/*") {
		// Behind both bytes, since the star of /*/ does not end what it begins.
		if end := strings.Index(text[2:], "*/"); end >= 0 {
			return 2 + end + 2
		}
	}
	return 0
}

// first is the kind and the length of the token with which a text begins that begins with no blank.
func first(text string) (kind, n int) {
	switch {
	case text[0] == '\n':
		return api.Newline, 1
	case letter(text[0]):
		return api.Ident, name(text)
	case digit(text[0]), text[0] == '.' && len(text) > 1 && digit(text[1]):
		return api.Number, number(text)
	}
	if n := closed(text, '"'); n > 0 {
		return api.Str, n
	}
	if n := closed(text, '\''); n > 2 {
		return api.Quote, n
	}
	if n := sign(text); n > 0 {
		return api.Punct, n
	}
	return api.Other, 1
}

func letter(b byte) bool {
	return 'a' <= b && b <= 'z' || 'A' <= b && b <= 'Z' || b == '_'
}

func digit(b byte) bool {
	return '0' <= b && b <= '9'
}

// name is how long the name is with which a text begins.
func name(text string) int {
	n := 0
	for n < len(text) && (letter(text[n]) || digit(text[n])) {
		n++
	}
	return n
}

// number is how long the number is with which a text begins, of which the first byte belongs to it whatever follows.
func number(text string) int {
	n := 1
	for n < len(text) {
		switch {
		case exponent(text[n:]):
			n += 2
		case letter(text[n]), digit(text[n]), text[n] == '.':
			n++
		default:
			return n
		}
	}
	return n
}

// exponent says whether a text begins with a letter that takes the sign behind it into a number.
func exponent(text string) bool {
	if len(text) < 2 || text[1] != '+' && text[1] != '-' {
		return false
	}
	switch text[0] {
	case 'e', 'E', 'p', 'P':
		return true
	}
	return false
}

// closed is how long the text in quotes is with which a text begins, with its quotes, 0 if it begins with none or its line ends ahead of the second quote.
func closed(text string, quote byte) int {
	if text[0] != quote {
		return 0
	}
	for n := 1; n < len(text) && text[n] != '\n'; n++ {
		if text[n] == quote {
			return n + 1
		}
		if text[n] == '\\' && n+1 < len(text) && text[n+1] != '\n' {
			n++
		}
	}
	return 0
}

// sign is how long the longest sign is with which a text begins, 0 if it begins with none.
func sign(text string) int {
	longest := 0
next:
	for _, s := range signs {
		if len(s) <= longest || len(s) > len(text) {
			continue
		}
		for i := range len(s) {
			if s[i] != text[i] {
				continue next
			}
		}
		longest = len(s)
	}
	return longest
}
