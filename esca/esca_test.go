package esca_test

import (
	"fmt"
	"math"
	"strings"
	"testing"
	"unicode/utf8"

	"bosket/api"
	"bosket/esca"
)

const hexDigits = "0123456789abcdefABCDEF"

// alone lists what stands for a code point alone, behind a \.
var alone = map[string]rune{
	"0": 0, "a": 7, "b": 8, "t": 9, "n": 0xa, "v": 0xb, "f": 0xc, "r": 0xd, "e": 0x1b,
	"\t": 9, " ": 0x20, "\"": 0x22, "/": 0x2f, "\\": 0x5c,
	"N": 0x85, "_": 0xa0, "L": 0x2028, "P": 0x2029,
}

// written lists what Show writes behind a \ in place of a code point.
var written = map[rune]string{
	0: "0", 7: "a", 8: "b", 9: "t", 0xa: "n", 0xb: "v", 0xc: "f", 0xd: "r", 0x1b: "e", 0x22: "\"", 0x5c: "\\",
}

func isCodePoint(r rune) bool {
	return r >= 0 && r <= 0x10ffff && (r < 0xd800 || r > 0xdfff)
}

// isPrintable tells 2.1 from the other side, by what may not stand.
func isPrintable(r rune) bool {
	for _, gap := range [][2]rune{{math.MinInt32, 8}, {0xb, 0x1f}, {0x7f, 0x84}, {0x86, 0x9f}, {0xd800, 0xdfff}, {0xfeff, 0xfeff}, {0xfffe, 0xffff}, {0x110000, math.MaxInt32}} {
		if gap[0] <= r && r <= gap[1] {
			return false
		}
	}
	return true
}

// reads holds Read to a code point and an offset behind a sequence, wherever it stands and whatever follows.
func reads(t *testing.T, sequence string, want rune) {
	t.Helper()
	for _, ahead := range []string{"", "a", "é\\", "\n", "\xff"} {
		for _, behind := range []string{"", "0", "f", "F9", "\\", "\n", "é", "\xff"} {
			s, at := ahead+sequence+behind, len(ahead)
			if r, to, e := esca.Read(s, at); r != want || to != at+len(sequence) || e != api.OK {
				t.Fatalf("Read(%q, %d) = %x %d %d, want %x %d", s, at, r, to, e, want, at+len(sequence))
			}
		}
	}
}

// refuses holds Read to ErrForm at at, and to no code point.
func refuses(t *testing.T, s string, at int) {
	t.Helper()
	if r, to, e := esca.Read(s, at); r != 0 || to != at || e != api.ErrForm {
		t.Fatalf("Read(%q, %d) = %x %d %d, want ErrForm at %d", s, at, r, to, e, at)
	}
}

// 5.1: what is written out in the chapter.
func TestRead(t *testing.T) {
	for s, r := range alone {
		reads(t, `\`+s, r)
	}
	for s, r := range map[string]rune{
		`\x41`:       'A', // the chapter's example
		`\x00`:       0,
		`\xff`:       0xff, // a number, not a byte
		`\xfF`:       0xff,
		`\x7F`:       0x7f,
		`\u0041`:     'A', // longer than need be
		`\u20aC`:     0x20ac,
		`\ud7ff`:     0xd7ff,
		`\ue000`:     0xe000,
		`\uFEFF`:     0xfeff, // what isn't Printable may be told
		`\ufffd`:     0xfffd,
		`\uFfFf`:     0xffff,
		`\U00000000`: 0,
		`\U00000041`: 'A',
		`\U0001f600`: 0x1f600,
		`\U0010FFFF`: 0x10ffff,
	} {
		reads(t, s, r)
	}
}

// 5.1: what is no escape sequence.
func TestReadErrForm(t *testing.T) {
	for _, s := range []string{
		"", "a", "n", "x41", "/n", "'", "\"", "\xff", " \\n",
		`\`,                      // nothing follows
		"\\\n", "\\\n n", "\\\r", // a row's end is no sequence
		`\'`, `\z`, `\A`, `\1`, `\7`, // not one of those that are listed
		`\B`, `\T`, `\E`, `\R`, `\F`, `\V`, `\l`, `\p`, `\X41`, `\-`,
		"\\\x00", "\\\a", "\\\b", "\\\x1b", // the code points themselves, but the tab
		"\\é", "\\\u0085", "\\\u00a0", "\\\u2028", "\\\u2029", "\\\xff", "\\\x85",
		`\x`, `\x4`, `\x4g`, `\xg4`, `\x 4`, `\x+4`, `\x-1`, `\x_1`, `\x\x`, `\xé`, "\\x\x10\x11", "\\x\xff\xff", "\\x4\n",
		`\u`, `\u1`, `\u12`, `\u123`, `\u123g`, `\u+123`, `\u-123`, `\u1_23`, `\u 123`, `\u0x1`, `\u0x41`, `\u{41}`, "\\u００",
		`\U`, `\U1`, `\U0001f60`, `\U0001f60g`, `\U0001 f600`, `\U0000_041`, `\U0x000041`, `\U+0000041`,
		`\ud800`, `\uDBFF`, `\uDC00`, `\udfff`, `\ud83d\ude00`, // halves of pairs
		`\U0000d800`, `\U0000dfff`, // and however long they are
		`\U00110000`, `\U00ffffff`, `\U01000041`, `\U7fffffff`, `\U80000000`, `\U80000041`, `\Ufffffffe`, `\Uffffffff`,
	} {
		refuses(t, s, 0)
		refuses(t, "\\n"+s, 2)
	}
}

// 5.1: every byte behind the \.
func TestReadEveryByte(t *testing.T) {
	for i := range 0x100 {
		c := string([]byte{byte(i)})
		if r, ok := alone[c]; ok {
			reads(t, `\`+c, r)
			continue
		}
		for _, behind := range []string{"", "g", "zzzzzzzzz", "\\n"} {
			refuses(t, `\`+c+behind, 0)
		}
		if !strings.Contains("xuU", c) {
			refuses(t, `\`+c+"000000041", 0)
		}
	}
}

// 5.1: every byte in the place of every digit, and sequences that are cut off.
func TestReadEveryDigit(t *testing.T) {
	for _, s := range []string{`\x12`, `\u1234`, `\U00012345`} {
		for at := 2; at < len(s); at++ {
			refuses(t, s[:at], 0)
			refuses(t, s[:at]+"\"", 0)
			for i := range 0x100 {
				c := byte(i)
				one := s[:at] + string([]byte{c}) + s[at+1:]
				if strings.IndexByte(hexDigits, c) < 0 {
					refuses(t, one, 0)
					continue
				}
				var want int64
				fmt.Sscanf(one[2:], "%x", &want)
				if want > 0x10ffff {
					refuses(t, one, 0)
					continue
				}
				reads(t, one, rune(want))
			}
		}
	}
}

// 5.1: every number, in either case, and in every length that it has room in.
func TestReadEveryNumber(t *testing.T) {
	for r := rune(0); r <= 0x110100; r++ {
		var all []string
		for _, f := range []string{`\U%08x`, `\U%08X`} {
			all = append(all, fmt.Sprintf(f, r))
		}
		if r <= 0xffff {
			all = append(all, fmt.Sprintf(`\u%04x`, r), fmt.Sprintf(`\u%04X`, r))
		}
		if r <= 0xff {
			all = append(all, fmt.Sprintf(`\x%02x`, r), fmt.Sprintf(`\x%02X`, r))
		}
		for _, s := range all {
			if !isCodePoint(r) {
				refuses(t, s, 0)
			} else if got, to, e := esca.Read(s, 0); got != r || to != len(s) || e != api.OK {
				t.Fatalf("Read(%q, 0) = %x %d %d", s, got, to, e)
			}
		}
	}
}

// 5.1: the sequence at at is read, and no other; and a \ may stand within what is read.
func TestReadAt(t *testing.T) {
	s := `\\n\x5c\é`
	for at, want := range map[int]struct {
		r  rune
		to int
	}{0: {'\\', 2}, 1: {'\n', 3}, 3: {'\\', 7}} {
		if r, to, e := esca.Read(s, at); r != want.r || to != want.to || e != api.OK {
			t.Errorf("Read(%q, %d) = %x %d %d, want %x %d", s, at, r, to, e, want.r, want.to)
		}
	}
	for _, at := range []int{2, 4, 5, 6, 7, 8, 9} {
		refuses(t, s, at)
	}
}

// 5.1, 5.4: numbers outside of the text, however far.
func TestReadFarNumbers(t *testing.T) {
	for _, s := range []string{"", `\`, `\n`, `\x41`, `\U0001f600`, "\xff"} {
		for _, at := range []int{math.MinInt, math.MinInt + 1, math.MinInt32, -2, -1, len(s), len(s) + 1, math.MaxInt32, math.MaxInt - 1, math.MaxInt} {
			refuses(t, s, at)
		}
	}
}

// 5.2: code points as they are written, written out.
func TestShow(t *testing.T) {
	for r, want := range map[rune]string{
		0: `\0`, 7: `\a`, 8: `\b`, 9: `\t`, 0xa: `\n`, 0xb: `\v`, 0xc: `\f`, 0xd: `\r`, 0x1b: `\e`,
		'"': `\"`, '\\': `\\`,
		' ': " ", '/': "/", '\'': "'", 'a': "a", '~': "~", // not all that may be escaped is
		1: `\x01`, 6: `\x06`, 0xe: `\x0e`, 0x1a: `\x1a`, 0x1c: `\x1c`, 0x1f: `\x1f`,
		0x7f: `\x7f`, 0x80: `\x80`, 0x84: `\x84`, 0x86: `\x86`, 0x9f: `\x9f`,
		0x85: "\u0085", 0xa0: "\u00a0", 0x2028: "\u2028", 0x2029: "\u2029", // Printable, though 5.1 has letters for them
		0xe9: "é", 0xff: "ÿ", 0x100: "Ā", 0x20ac: "€", 0xd7ff: "\ud7ff", 0xe000: "\ue000",
		0xfeff: `\ufeff`, 0xfffd: "\ufffd", 0xfffe: `\ufffe`, 0xffff: `\uffff`,
		0x10000: "\U00010000", 0x1f600: "😀", 0x1fffe: "\U0001fffe", 0x10ffff: "\U0010ffff",
		-1: "\ufffd", 0xd800: "\ufffd", 0xdfff: "\ufffd", 0x110000: "\ufffd", // no code points
		math.MinInt32: "\ufffd", math.MaxInt32: "\ufffd",
	} {
		if got := esca.Show(r); got != want {
			t.Errorf("Show(%x) = %q, want %q", r, got, want)
		}
	}
}

// show works 5.2 out by what may not stand.
func show(r rune) string {
	switch l := written[r]; {
	case !isCodePoint(r):
		return "\ufffd"
	case l != "":
		return `\` + l
	case isPrintable(r):
		return string(r)
	case r < 0x100:
		return fmt.Sprintf(`\x%02x`, r)
	}
	return fmt.Sprintf(`\u%04x`, r) // none from 10000 up is left
}

// 5.2, 5.3 (W2): every number near and within the range of the code points, and what Show writes is read as it was.
func TestShowEveryNumber(t *testing.T) {
	for r := rune(-0x200); r <= 0x110200; r++ {
		got := esca.Show(r)
		if got != show(r) {
			t.Fatalf("Show(%x) = %q, want %q", r, got, show(r))
		}
		if !isCodePoint(r) || got == string(r) {
			continue
		}
		if back, to, e := esca.Read(got, 0); back != r || to != len(got) || e != api.OK {
			t.Fatalf("Show(%x) = %q, but is read as %x %d %d", r, got, back, to, e)
		}
	}
}

// 5.2: what can stand in single quotes, written out.
func TestSingle(t *testing.T) {
	for s, want := range map[string]bool{
		"":                   true,
		"a b'":               true,
		"''":                 true,
		"\"\\":               true,
		" a ":                true,
		"\t":                 true,
		"é€😀":                true,
		"\u0085":             true, // Printable, and no LF
		"\u00a0\u2028\u2029": true,
		"\ufffd":             true, // as a code point
		"\ud7ff\ue000":       true,
		"\U0010ffff":         true,
		"\n":                 false,
		"a\n":                false,
		"\na":                false,
		"\r":                 false,
		"\x00":               false,
		"\x1b":               false,
		"a\x7f":              false,
		"\u0084":             false,
		"\ufeff":             false,
		"\uffff":             false,
		"a\xff":              false, // as a byte that is part of no code point
		"\x80a":              false,
		"\xe2\x82":           false,
		"\xed\xa0\x80":       false,
		"\xc0\x80":           false,
		"\xf4\x90\x80\x80":   false,
		"\ufffd\xff":         false,
		"\xff\ufffd":         false,
	} {
		if got := esca.Single(s); got != want {
			t.Errorf("Single(%q) = %v", s, got)
		}
	}
}

// 5.2: texts in quotes, written out.
func TestQuote(t *testing.T) {
	for _, c := range []struct{ s, single, double string }{
		{"", `''`, `""`},
		{"a'b", `'a''b'`, `"a'b"`}, // the chapter's example
		{"'", `''''`, `"'"`},
		{"''", `''''''`, `"''"`},
		{`"\`, `'"\'`, `"\"\\"`},
		{`\n`, `'\n'`, `"\\n"`},
		{"a\tb", "'a\tb'", `"a\tb"`},
		{" a ", `' a '`, `" a "`},
		{"a: b # c/", `'a: b # c/'`, `"a: b # c/"`},
		{"é€😀", `'é€😀'`, `"é€😀"`},
		{"\u0085\u00a0\u2028\u2029", "'\u0085\u00a0\u2028\u2029'", "\"\u0085\u00a0\u2028\u2029\""},
		{"\ufffd", "'\ufffd'", "\"\ufffd\""},
		{"a\nb", `"a\nb"`, `"a\nb"`}, // single quotes are asked for, but can't be
		{"'\n'", `"'\n'"`, `"'\n'"`},
		{"\"\n\\", `"\"\n\\"`, `"\"\n\\"`},
		{"\r\n", `"\r\n"`, `"\r\n"`},
		{"\x00\x01\x1b", `"\0\x01\e"`, `"\0\x01\e"`},
		{"\x007", `"\07"`, `"\07"`}, // a digit behind a sequence is none of it
		{"\x01f", `"\x01f"`, `"\x01f"`},
		{"\x7f'", `"\x7f'"`, `"\x7f'"`},
		{"\ufeff\uffff", `"\ufeff\uffff"`, `"\ufeff\uffff"`},
		{"\xff", "\"\ufffd\"", "\"\ufffd\""},
		{"'\xe2\x82'", "\"'\ufffd\ufffd'\"", "\"'\ufffd\ufffd'\""},
		{"a\xed\xa0\x80", "\"a\ufffd\ufffd\ufffd\"", "\"a\ufffd\ufffd\ufffd\""},
	} {
		if got := esca.Quote(c.s, true); got != c.single {
			t.Errorf("Quote(%q, true) = %q, want %q", c.s, got, c.single)
		}
		if got := esca.Quote(c.s, false); got != c.double {
			t.Errorf("Quote(%q, false) = %q, want %q", c.s, got, c.double)
		}
	}
}

// quotes works Single and Quote out one code point after the other.
func quotes(s string) (single, double string, ok bool) {
	single, double, ok = "'", `"`, true
	for at := 0; at < len(s); {
		r, n := utf8.DecodeRuneInString(s[at:])
		ok = ok && !(r == utf8.RuneError && n == 1) && r != '\n' && isPrintable(r)
		single += string(r)
		if r == '\'' {
			single += "'"
		}
		double += show(r)
		at += n
	}
	single, double = single+"'", double+`"`
	if !ok {
		single = double
	}
	return single, double, ok
}

// unquote reads back what Quote wrote; false if it isn't one row in quotes that end where it ends.
func unquote(s string) (string, bool) {
	if len(s) < 2 || s[0] != '\'' && s[0] != '"' || strings.Contains(s, "\n") {
		return "", false
	}
	var out []rune
	for at := 1; at < len(s); {
		switch {
		case s[at] == s[0] && s[0] == '\'' && strings.HasPrefix(s[at:], "''"):
			out = append(out, '\'')
			at += 2
		case s[at] == s[0]:
			return string(out), at == len(s)-1
		case s[at] == '\\' && s[0] == '"':
			r, to, e := esca.Read(s, at)
			if e != api.OK {
				return "", false
			}
			out = append(out, r)
			at = to
		default:
			r, n := utf8.DecodeRuneInString(s[at:])
			if !isPrintable(r) || r == utf8.RuneError && n == 1 {
				return "", false
			}
			out = append(out, r)
			at += n
		}
	}
	return "", false
}

// check holds Single and Quote against the chapter's words for s; and what is quoted has the same text, in one row.
func check(t *testing.T, s string) {
	t.Helper()
	single, double, ok := quotes(s)
	if got := esca.Single(s); got != ok {
		t.Fatalf("Single(%q) = %v", s, got)
	}
	if got := esca.Quote(s, true); got != single {
		t.Fatalf("Quote(%q, true) = %q, want %q", s, got, single)
	}
	if got := esca.Quote(s, false); got != double {
		t.Fatalf("Quote(%q, false) = %q, want %q", s, got, double)
	}
	text := string([]rune(s)) // with U+FFFD for what is no code point
	for _, q := range []string{single, double} {
		if back, sound := unquote(q); back != text || !sound {
			t.Fatalf("%q in quotes, %q, is read as %q %v", s, q, back, sound)
		}
	}
}

// 5.2, 5.3 (W2, W5): every sequence of up to four parts.
func TestEveryText(t *testing.T) {
	parts := []string{"", "a", "0", "n", "x", "'", "\"", "\\", "/", " ", "\t", "\n", "\r", "\x00", "\x1b", "\x7f", "\u0085", "é", "\u2028", "\ufeff", "\ufffd", "😀", "\xff", "\xe2\x82"}
	for _, a := range parts {
		for _, b := range parts {
			for _, c := range parts {
				for _, d := range parts {
					check(t, a+b+c+d)
				}
			}
		}
	}
}

// 5.2, 5.3 (W2): every code point, and every text of two bytes.
func TestEveryCodePoint(t *testing.T) {
	for r := rune(0); r <= utf8.MaxRune; r++ {
		check(t, string(r)+"'1")
	}
	for a := range 0x100 {
		for b := range 0x100 {
			check(t, string([]byte{byte(a), byte(b)}))
		}
	}
}

// 5.4: every text of three bytes from those at which the rules change ends without a panic, in every call.
func TestEdgeBytes(t *testing.T) {
	edges := []byte("\x00\t\n\r\x1b \"'/09:@AFG\\_`afgnuxU~\x7f\x80\x85\x9f\xa0\xbf\xc0\xc2\xdf\xe0\xed\xef\xf0\xf4\xff")
	for _, a := range edges {
		for _, b := range edges {
			for _, c := range edges {
				s := string([]byte{a, b, c})
				check(t, s)
				for at := -1; at <= len(s)+1; at++ {
					total(t, s, at)
				}
			}
		}
	}
}

// total holds Read to one of its two kinds of answers.
func total(t *testing.T, s string, at int) {
	t.Helper()
	r, to, e := esca.Read(s, at)
	if e == api.OK && s[at] == '\\' && isCodePoint(r) && to >= at+2 && to <= len(s) {
		return
	}
	if e != api.ErrForm || r != 0 || to != at {
		t.Fatalf("Read(%q, %d) = %x %d %d", s, at, r, to, e)
	}
}

// 5.2, 5.4: long texts end.
func TestLong(t *testing.T) {
	const n = 1 << 18
	for _, c := range []struct{ part, single, double string }{
		{"a", "a", "a"},
		{"'", "''", "'"},
		{"\\", "\\", `\\`},
		{"\x01", "", `\x01`},
		{"\xff", "", "\ufffd"},
		{"😀", "😀", "😀"},
	} {
		s := strings.Repeat(c.part, n)
		double := `"` + strings.Repeat(c.double, n) + `"`
		single := "'" + strings.Repeat(c.single, n) + "'"
		if c.single == "" {
			single = double
		}
		if esca.Single(s) != (c.single != "") || esca.Quote(s, true) != single || esca.Quote(s, false) != double {
			t.Errorf("%q, %d times, is quoted wrongly", c.part, n)
		}
	}
	s := strings.Repeat(`\\`, n)
	if r, to, e := esca.Read(s, n); r != '\\' || to != n+2 || e != api.OK {
		t.Errorf("Read = %x %d %d", r, to, e)
	}
}
