package ifexpr

import (
	"strings"

	"emend/api"
)

// bare is a number without the letters that may stand behind its digits.
func bare(s string) string {
	if rest, ok := withoutUnsigned(s); ok {
		return withoutLong(rest)
	}
	rest, _ := withoutUnsigned(withoutLong(s))
	return rest
}

func withoutUnsigned(s string) (rest string, ok bool) {
	if rest, ok := strings.CutSuffix(s, "u"); ok {
		return rest, true
	}
	return strings.CutSuffix(s, "U")
}

func withoutLong(s string) string {
	// The longer ones come first, since each has a shorter one at its end.
	for _, long := range [...]string{"ll", "LL", "l", "L"} {
		if rest, ok := strings.CutSuffix(s, long); ok {
			return rest
		}
	}
	return s
}

// based is the digits of a number, and what they are digits of; a 0 that says octal is a digit itself, since it may stand alone.
func based(s string) (digits string, base int) {
	if !strings.HasPrefix(s, "0") {
		return s, 10
	}
	if len(s) > 1 && (s[1] == 'x' || s[1] == 'X') {
		return s[2:], 16
	}
	return s, 8
}

// escaped is what a byte behind a backslash stands for.
func escaped(b byte) (int64, api.Errno) {
	switch b {
	case 'n':
		return '\n', api.OK
	case 't':
		return '\t', api.OK
	case 'r':
		return '\r', api.OK
	case '0':
		return 0, api.OK
	case 'a':
		return '\a', api.OK
	case 'b':
		return '\b', api.OK
	case 'f':
		return '\f', api.OK
	case 'v':
		return '\v', api.OK
	case '\\', '\'', '"', '?':
		return int64(b), api.OK
	}
	return 0, api.ErrNumber
}
