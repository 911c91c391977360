package text_test

import (
	"math"
	"strings"
	"testing"
	"unicode/utf8"

	"bosket/api"
	"bosket/text"
)

// 2.1: the edges of every range, with what stands beside them.
func TestPrintableEdges(t *testing.T) {
	for _, r := range []rune{9, 0xa, 0x20, 0x7e, 0x85, 0xa0, 0xd7ff, 0xe000, 0xfefe, 0xff00, 0xfffd, 0x10000, 0x10ffff} {
		if !text.Printable(r) {
			t.Errorf("Printable(%x) = false", r)
		}
	}
	for _, r := range []rune{math.MinInt32, -1, 0, 8, 0xb, 0xc, 0xd, 0x1f, 0x7f, 0x84, 0x86, 0x9f, 0xd800, 0xdfff, 0xfeff, 0xfffe, 0xffff, 0x110000, math.MaxInt32} {
		if text.Printable(r) {
			t.Errorf("Printable(%x) = true", r)
		}
	}
}

// mayStand tells from a list of the numbers that may not stand whether r may, so that the tests count from the other side.
func mayStand(r rune) bool {
	for _, gap := range [][2]rune{{math.MinInt32, 8}, {0xb, 0x1f}, {0x7f, 0x84}, {0x86, 0x9f}, {0xd800, 0xdfff}, {0xfeff, 0xfeff}, {0xfffe, 0xffff}, {0x110000, math.MaxInt32}} {
		if gap[0] <= r && r <= gap[1] {
			return false
		}
	}
	return true
}

// 2.1: every number near and within the range of the code points.
func TestPrintableEveryNumber(t *testing.T) {
	for r := rune(-0x200); r <= 0x110200; r++ {
		if got := text.Printable(r); got != mayStand(r) {
			t.Fatalf("Printable(%x) = %v", r, got)
		}
	}
}

// 2.2: texts that are read.
func TestClean(t *testing.T) {
	for in, want := range map[string]string{
		"":                   "",
		"a\r\nb\r":           "a\nb\n", // the chapter's example
		"a: b\n":             "a: b\n",
		"\n":                 "\n",
		"\r":                 "\n",
		"\r\n":               "\n",
		"\n\r":               "\n\n",
		"\r\r":               "\n\n",
		"\r\r\n":             "\n\n",
		"\r\n\r\n":           "\n\n",
		"\r\n\n\r":           "\n\n\n",
		"a\rb\r\nc\nd":       "a\nb\nc\nd",
		"\ufeff":             "", // removed
		"\ufeffa":            "a",
		"\ufeff\r\n":         "\n",
		"\ufeff\ufffd":       "\ufffd",
		"\ufffd":             "\ufffd", // as a code point, it may stand
		"\t \u0085\u00a0~":   "\t \u0085\u00a0~",
		"\u2028\u2029":       "\u2028\u2029", // no ends of rows
		"é€😀\ud7ff\ue000":    "é€😀\ud7ff\ue000",
		"\U00010000":         "\U00010000",
		"\U0010ffff\u0085\r": "\U0010ffff\u0085\n",
	} {
		if got, at, e := text.Clean([]byte(in)); got != want || at != 0 || e != api.OK {
			t.Errorf("Clean(%q) = %q %d %d, want %q", in, got, at, e, want)
		}
	}
	if got, at, e := text.Clean(nil); got != "" || at != 0 || e != api.OK {
		t.Errorf("Clean(nil) = %q %d %d", got, at, e)
	}
}

// 2.2: texts that are not read, and the offset in what was handed in.
func TestCleanErrText(t *testing.T) {
	for in, want := range map[string]int{
		"\r\x01":               1, // the chapter's example
		"\x00":                 0,
		"a\x00b\x01":           1,
		"ab\x7f":               2,
		"\u0084":               0,
		"é\u0086":              2,
		"\x0b":                 0,
		"\x0c":                 0,
		"a\x1b[0m":             1,
		"\r\n\x00":             2, // counted in CR LF, not in what they become
		"\r\n\r\n\r\x00":       5,
		"a\ufeff":              1, // elsewhere than at the beginning
		"\n\ufeff":             1,
		"\ufeff\ufeff":         3, // but once
		"\ufeff\x00":           3,
		"\ufeffé\ufffe":        5,
		"\uffff":               0,
		"\xff":                 0,
		"a\x80":                1,
		"\xef\xbb":             0, // no whole mark
		"\xef\xbb\x00":         0,
		"\ufeff\xef\xbb":       3,
		"\xe2\x82":             0,
		"a\xed\xa0\x80":        1,
		"a\xc0\x80":            1,
		"\xf4\x90\x80\x80":     0,
		"\ufffd\xff":           3, // behind the code point that stands for such bytes
		"\xff\ufffd":           0,
		"\x00\xff":             0, // what is met first, of either kind
		"\xff\x00":             0,
		"é\xff\x00":            2,
		"é\x00\xff":            2,
		"\xfe\xff\x00a":        0,
		"a: b\r\n- \u0091\r\n": 8,
	} {
		if got, at, e := text.Clean([]byte(in)); got != "" || at != want || e != api.ErrText {
			t.Errorf("Clean(%q) = %q %d %d, want ErrText at %d", in, got, at, e, want)
		}
	}
}

// 2.2: the length is that of what is handed in, and is told ahead of anything else.
func TestCleanErrLong(t *testing.T) {
	full := strings.Repeat("a", api.MaxBytes)
	crs := strings.Repeat("\r\n", api.MaxBytes/2)
	for _, c := range []struct {
		in   string
		want string
		at   int
		e    api.Errno
	}{
		{full, full, 0, api.OK},
		{full[1:] + "\r", full[1:] + "\n", 0, api.OK},
		{full + "a", "", 0, api.ErrLong},
		{full + full, "", 0, api.ErrLong},
		{full + "\xff", "", 0, api.ErrLong},
		{"\x00" + full, "", 0, api.ErrLong},
		{full[1:] + "\x00", "", api.MaxBytes - 1, api.ErrText},
		{"\ufeff" + full[3:], full[3:], 0, api.OK},
		{"\ufeff" + full[2:], "", 0, api.ErrLong}, // what is removed counts
		{crs, strings.Repeat("\n", api.MaxBytes/2), 0, api.OK},
		{crs + "\r", "", 0, api.ErrLong}, // though the text would be shorter
	} {
		if got, at, e := text.Clean([]byte(c.in)); got != c.want || at != c.at || e != c.e {
			t.Errorf("Clean of %d bytes: %d bytes %d %d, want %d bytes %d %d", len(c.in), len(got), at, e, len(c.want), c.at, c.e)
		}
	}
}

// expect reads in step by step, one code point after the other.
func expect(in string) (string, int, api.Errno) {
	if len(in) > api.MaxBytes {
		return "", 0, api.ErrLong
	}
	var out []byte
	for at := len(in) - len(strings.TrimPrefix(in, "\xef\xbb\xbf")); at < len(in); {
		r, n := utf8.DecodeRuneInString(in[at:])
		switch {
		case r == '\r':
			out = append(out, '\n')
			if strings.HasPrefix(in[at:], "\r\n") {
				n = 2
			}
		case r == utf8.RuneError && n == 1, !mayStand(r):
			return "", at, api.ErrText
		default:
			out = append(out, in[at:at+n]...)
		}
		at += n
	}
	return string(out), 0, api.OK
}

// check holds Clean against expect; and what is clean is not changed again.
func check(t *testing.T, in string) {
	t.Helper()
	want, place, code := expect(in)
	got, at, e := text.Clean([]byte(in))
	if got != want || at != place || e != code {
		t.Fatalf("Clean(%q) = %q %d %d, want %q %d %d", in, got, at, e, want, place, code)
	}
	if again, at, e := text.Clean([]byte(got)); again != got || at != 0 || e != api.OK {
		t.Fatalf("Clean(%q) = %q %d %d, though it is clean", got, again, at, e)
	}
}

// 2.2, 2.3 (W1): every sequence of four parts either has a text, or the first that is wrong is told.
func TestCleanTotal(t *testing.T) {
	parts := []string{"", "a", "\n", "\r", "\t", "é", "\u0085", "\ufffd", "😀", "\ufeff", "\x00", "\x7f", "\ufffe", "\xff", "\xef", "\xbb", "\xbf", "\xe2\x82", "\xed\xa0\x80"}
	for _, a := range parts {
		for _, b := range parts {
			for _, c := range parts {
				for _, d := range parts {
					check(t, a+b+c+d)
				}
			}
		}
	}
}

// 2.2, 2.3 (W1): the same for every code point, between two ends of rows, and behind a mark.
func TestCleanEveryCodePoint(t *testing.T) {
	for r := rune(0); r <= utf8.MaxRune; r++ {
		check(t, "\r"+string(r)+"\r\n")
		check(t, "\ufeff"+string(r))
	}
}

// 2.4: every input of three bytes from those at which the rules change, alone and behind a mark, ends without a panic.
func TestCleanEdgeBytes(t *testing.T) {
	edges := []byte("\x00\t\n\r\x1f a~\x7f\x80\x85\x8f\x90\x9f\xa0\xbb\xbd\xbe\xbf\xc0\xc2\xdf\xe0\xed\xef\xf0\xf4\xf8\xff")
	for _, a := range edges {
		for _, b := range edges {
			for _, c := range edges {
				check(t, string([]byte{a, b, c}))
				check(t, string([]byte{0xef, 0xbb, 0xbf, a, b, c}))
			}
		}
	}
}

// 2.4, 2.2: long inputs of every kind, up to MaxBytes and beyond, end without a panic.
func TestCleanLong(t *testing.T) {
	for _, part := range []string{"a", "\r", "\r\n", "é", "😀", "\ufffd", "\xff", "\x00", "\ufeff"} {
		for _, n := range []int{1000, 16384, 16385, 65535, 65536, 65537, 1 << 20} {
			check(t, strings.Repeat(part, n))
		}
	}
}

// Rule 3 of DOC.md: the argument stays as it is, with what lies behind it, and the text shares nothing with it.
func TestMemory(t *testing.T) {
	for _, in := range []string{"\ufeffa\r\nb\r|behind", "abcdefgh|behind", "\ufeffab\x00|behind"} {
		all := []byte(in)
		part := all[:strings.IndexByte(in, '|')]
		got, _, _ := text.Clean(part)
		if string(all) != in {
			t.Errorf("Clean changed %q to %q", in, all)
		}
		kept := strings.Clone(got)
		clear(all)
		if got != kept {
			t.Errorf("Clean = %q behind a change, %q ahead of it", got, kept)
		}
	}
}
