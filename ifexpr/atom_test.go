package ifexpr_test

import (
	"strings"
	"testing"

	"emend/api"
	"emend/ifexpr"
)

func TestI1Numbers(t *testing.T) {
	for s, want := range map[string]int64{
		"0": 0, "00": 0, "000000": 0, "01": 1, "07": 7, "010": 8, "0017": 15, "01234567": 342391,
		"1": 1, "7": 7, "8": 8, "9": 9, "10": 10, "1234567890": 1234567890, "900": 900,
		"0x0": 0, "0X0": 0, "0x00": 0, "0x1": 1, "0x9": 9, "0xa": 10, "0xF": 15, "0x10": 16, "0XaBcDeF": 11259375, "0xAbCdEf": 11259375, "0X0123456789": 4886718345, "0xe": 14, "0xB": 11, "0x000000000000000000001": 1,
		// 2^63 - 1 in each base.
		"9223372036854775807": 1<<63 - 1, "0777777777777777777777": 1<<63 - 1, "0x7fffffffffffffff": 1<<63 - 1, "0X7FFFFFFFFFFFFFFF": 1<<63 - 1, "0x007FFFFFFFFFFFFFFF": 1<<63 - 1, "00000777777777777777777777": 1<<63 - 1,
		"9223372036854775800": 1<<63 - 8, "9223372036854775807ull": 1<<63 - 1, "0777777777777777777777LLU": 1<<63 - 1, "0x7fffffffffffffffu": 1<<63 - 1,
	} {
		if n, e := ifexpr.Number(s); n != want || e != api.OK {
			t.Errorf("%q: %d, %d, not %d", s, n, e, want)
		}
	}
}

func TestI1Suffixes(t *testing.T) {
	longs := []string{"l", "L", "ll", "LL"}
	for digits, want := range map[string]int64{"0": 0, "012": 10, "12": 12, "0x12": 18, "0XfF": 255} {
		all := append([]string{"", "u", "U"}, longs...)
		for _, u := range []string{"u", "U"} {
			for _, long := range longs {
				all = append(all, u+long, long+u)
			}
		}
		for _, suffix := range all {
			if n, e := ifexpr.Number(digits + suffix); n != want || e != api.OK {
				t.Errorf("%s%s: %d, %d", digits, suffix, n, e)
			}
		}
		// Twice, parted, of both cases, with digits behind, and others.
		for _, suffix := range strings.Fields("uu uU UU Uu lL Ll lll LLL llll lul LUL llull lull ulu UlU ullu ulL uLl lLu Llu LlU uul luu llUU l1 u1 ll0 u0u lu1 g G z i64 _ +u -u ' l'l u.l .u lu. x ux") {
			if n, e := ifexpr.Number(digits + suffix); n != 0 || e != api.ErrNumber {
				t.Errorf("%s%s: %d, %d", digits, suffix, n, e)
			}
		}
		if n, e := ifexpr.Number("u" + digits); n != 0 || e != api.ErrNumber {
			t.Errorf("u%s: %d, %d", digits, n, e)
		}
	}
}

func TestI1Wrong(t *testing.T) {
	for _, s := range []string{
		"", "u", "l", "ull", "x", "x1", "a", "f", ".", "+", "-", "+1", "-1", "--1", " 1", "1 ", " ", "1\n", "\n1", "1\x00", "\x001", "\xb1", "１", "'a'", "\"1\"", "_", "_1", "1_", "1_000", "1'0",
		"08", "09", "018", "0128", "0779", "08u", "0a", "0b1", "0B1", "0o7", "0O7", "0_7", "00x1", "00X", "0+1", "0-1",
		"0x", "0X", "0xu", "0xl", "0xull", "0Xg", "0x1g", "0xx1", "0x0x1", "0x-1", "0x+1", "0x 1", "0x_1", "0x1_0", "0x1.0", "0x1p3", "0x.1", "x0", "X1", "1x1", "10x",
		"1a", "1f", "1e5", "1E5", "1.", "1.0", ".1", "1.e+5", "1e+5", "1..2",
		// 2^63 in each base, and more.
		"9223372036854775808", "01000000000000000000000", "0x8000000000000000", "0X8000000000000000", "9223372036854775808u", "0x8000000000000000ull", "01000000000000000000000LU", "0xffffffffffffffff", "01777777777777777777777", "18446744073709551615", "18446744073709551616", "18446744073709551617", "0x10000000000000000", "0x10000000000000001", "02000000000000000000000", "99999999999999999999999999", "9223372036854775810", "9300000000000000000", "340282366920938463463374607431768211457",
	} {
		if n, e := ifexpr.Number(s); n != 0 || e != api.ErrNumber {
			t.Errorf("%q: %d, %d", s, n, e)
		}
	}
}

// All short texts, and all short ends, against I1's words.
func TestI1AllShortTexts(t *testing.T) {
	t.Parallel()
	came := map[api.Errno]int{}
	check := func(s string) {
		n, e := ifexpr.Number(s)
		if want, f := toldNumber(s); n != want || e != f {
			t.Fatalf("%q: %d, %d, not %d, %d", s, n, e, want, f)
		}
		came[e]++
	}
	for _, s := range texts("0178xXaFguLl_", 5) {
		check(s)
	}
	for _, suffix := range texts("uUlL1", 5) {
		for _, digits := range []string{"0", "9", "0x", "0Xe", "9223372036854775807", "9223372036854775808", "077", "08"} {
			check(digits + suffix)
		}
	}
	for b := range 256 {
		for _, s := range []string{"", "0", "0x", "1", "07"} {
			check(s + string([]byte{byte(b)}))
			check(string([]byte{byte(b)}) + s)
		}
	}
	if came[api.OK] < 1000 || came[api.ErrNumber] < 1000 {
		t.Error(came)
	}
}

func TestI2Quotes(t *testing.T) {
	for s, want := range map[string]int64{
		"'a'": 97, "'Z'": 90, "'0'": 48, "' '": 32, "'\"'": 34, "'?'": 63, "'n'": 110, "'\n'": 10, "'\x00'": 0, "'\x7f'": 127, "'\x80'": 128, "'\xff'": 255,
		// A quote between is a byte that is no backslash.
		"'''":  39,
		`'\n'`: 10, `'\t'`: 9, `'\r'`: 13, `'\0'`: 0, `'\a'`: 7, `'\b'`: 8, `'\f'`: 12, `'\v'`: 11,
		`'\\'`: 92, `'\''`: 39, `'\"'`: 34, `'\?'`: 63,
	} {
		if n, e := ifexpr.Quote(s); n != want || e != api.OK {
			t.Errorf("%q: %d, %d, not %d", s, n, e, want)
		}
	}
	for _, s := range []string{
		"", "'", "''", "a", "'a", "a'", "\"a\"", "'a\"", "\"a'", " 'a'", "'a' ", "L'a'", "'a'1", "'ab'", "'  '", "''''", "'a''", "''a'", "'é'", "'\xc3\xa9'",
		`'\'`, `\`, `'\`, `\'`, `'\\`, `\\'`, `'\n`, `\n'`, `'a\'`, `'\\\'`, `'\\\\'`, `'n\'`, `'\nn'`, `'\n\n'`, `'\00'`, `'\012'`, `'\x41'`, `'\u0041'`,
		`'\1'`, `'\7'`, `'\8'`, `'\x'`, `'\e'`, `'\N'`, `'\c'`, `'\ '`, "'\\\n'", "'\\\x00'", "'\\\xff'", `'\/'`, `'\(' `, `'\%'`,
	} {
		if n, e := ifexpr.Quote(s); n != 0 || e != api.ErrNumber {
			t.Errorf("%q: %d, %d", s, n, e)
		}
	}
}

// All short texts, and each byte alone and behind a backslash, against I2's words.
func TestI2AllShortTexts(t *testing.T) {
	came := map[api.Errno]int{}
	for _, s := range texts("'\\n0'a\"\n?", 5) {
		n, e := ifexpr.Quote(s)
		if want, f := toldQuote(s); n != want || e != f {
			t.Fatalf("%q: %d, %d, not %d, %d", s, n, e, want, f)
		}
		came[e]++
	}
	if came[api.OK] < 10 || came[api.ErrNumber] < 1000 {
		t.Error(came)
	}
	for b := range 256 {
		one := string([]byte{byte(b)})
		want, f := int64(b), api.OK
		if b == '\\' {
			want, f = 0, api.ErrNumber
		}
		if n, e := ifexpr.Quote("'" + one + "'"); n != want || e != f {
			t.Errorf("byte %d: %d, %d", b, n, e)
		}
		want, f = 0, api.ErrNumber
		if n, ok := escapes[one]; ok {
			want, f = n, api.OK
		}
		if n, e := ifexpr.Quote("'\\" + one + "'"); n != want || e != f {
			t.Errorf("byte %d behind a backslash: %d, %d", b, n, e)
		}
	}
}
