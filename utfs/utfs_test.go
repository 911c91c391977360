package utfs_test

import (
	"math"
	"slices"
	"strings"
	"testing"

	"bosket/utfs"
)

// encode writes a code point as RFC 3629 does, by its bits, so that the tests do not lean on what the package leans on.
func encode(r rune) string {
	switch {
	case r < 0x80:
		return string([]byte{byte(r)})
	case r < 0x800:
		return string([]byte{0xc0 | byte(r>>6), tail(r)})
	case r < 0x10000:
		return string([]byte{0xe0 | byte(r>>12), tail(r >> 6), tail(r)})
	}
	return string([]byte{0xf0 | byte(r>>18), tail(r >> 12), tail(r >> 6), tail(r)})
}

func tail(r rune) byte { return 0x80 | byte(r&0x3f) }

func isCodePoint(r rune) bool {
	return r >= 0 && r <= 0x10ffff && (r < 0xd800 || r > 0xdfff)
}

// first returns the code point whose encoding s begins with, and how long that is: 0 if there is none.
func first(s string) (rune, int) {
	for n, mask := range []byte{0x7f, 0x1f, 0x0f, 0x07} {
		if n >= len(s) {
			break
		}
		r := rune(s[0] & mask)
		for _, c := range []byte(s[1 : n+1]) {
			r = r<<6 | rune(c&0x3f)
		}
		if isCodePoint(r) && encode(r) == s[:n+1] {
			return r, n + 1
		}
	}
	return 0, 0
}

// expect works out Runes and Place from the encodings.
func expect(s string) ([]rune, int) {
	var rs []rune
	place := -1
	for at := 0; at < len(s); {
		r, n := first(s[at:])
		if n == 0 {
			if place < 0 {
				place = at
			}
			r, n = 0xfffd, 1
		}
		rs = append(rs, r)
		at += n
	}
	return rs, place
}

// check holds every call that takes a text against what the encodings say.
func check(t *testing.T, s string) {
	t.Helper()
	rs, place := expect(s)
	if got := utfs.Place(s); got != place {
		t.Errorf("Place(%q) = %d, want %d", s, got, place)
	}
	if got := utfs.Runes(s); !slices.Equal(got, rs) {
		t.Errorf("Runes(%q) = %x, want %x", s, got, rs)
	}
	if got := utfs.Width(s); got != len(rs) {
		t.Errorf("Width(%q) = %d, want %d", s, got, len(rs))
	}
}

// 1.1: the offsets, written out.
func TestPlace(t *testing.T) {
	for _, c := range []struct {
		s    string
		want int
	}{
		{"", -1},
		{"a", -1},
		{"a\xff", 1}, // the chapter's example
		{"\x00\x7f", -1},
		{"\xc2\x80\xdf\xbf", -1},
		{"\xe0\xa0\x80\xed\x9f\xbf\xee\x80\x80\xef\xbf\xbf", -1},
		{"\xf0\x90\x80\x80\xf4\x8f\xbf\xbf", -1},
		{"\ufffd", -1},          // it stands there itself
		{"\ufffd\xff", 3},       // behind it
		{"\xff\ufffd", 0},       // ahead of it
		{"a\xef\xbf", 1},        // begun, but cut off
		{"a\xef\xbf\xbe", -1},   // U+FFFE is a code point
		{"\ufeffa", -1},         // and so is U+FEFF
		{"é\x80", 2},            // a byte that continues nothing
		{"é\xc3", 2},            // cut off, two bytes
		{"x\xe2\x82", 1},        // cut off, three bytes
		{"x\xf0\x9f\x98", 1},    // cut off, four bytes
		{"x\xf0\x9f\x98a", 1},   // cut off by another
		{"\xc0\x80", 0},         // too many bytes for 0
		{"\xc1\xbf", 0},         // for 7f
		{"\xe0\x9f\xbf", 0},     // for 7ff
		{"\xf0\x8f\xbf\xbf", 0}, // for ffff
		{"a\xed\xa0\x80", 1},    // d800
		{"a\xed\xbf\xbf", 1},    // dfff
		{"\xf4\x90\x80\x80", 0}, // 110000
		{"\xf5\x80\x80\x80", 0}, // greater yet
		{"\xf8\x88\x80\x80\x80", 0},
		{"\xfe", 0},
	} {
		if got := utfs.Place(c.s); got != c.want {
			t.Errorf("Place(%q) = %d, want %d", c.s, got, c.want)
		}
		check(t, c.s)
	}
}

// 1.1: the code points, written out, and how many there are.
func TestRunes(t *testing.T) {
	for _, c := range []struct {
		s    string
		want []rune
	}{
		{"", nil},
		{"é\xff", []rune{0xe9, 0xfffd}}, // the chapter's example
		{"a\x00é€😀", []rune{'a', 0, 0xe9, 0x20ac, 0x1f600}},
		{"\ufffd\ufeff", []rune{0xfffd, 0xfeff}},
		{"\xe2\x82é", []rune{0xfffd, 0xfffd, 0xe9}},
		{"\xed\xa0\x80", []rune{0xfffd, 0xfffd, 0xfffd}},
		{"\xc0\x80a", []rune{0xfffd, 0xfffd, 'a'}},
		{"\xf4\x90\x80\x80", []rune{0xfffd, 0xfffd, 0xfffd, 0xfffd}},
		{"\xf0\x9f\x98\xf0\x9f\x98\x80", []rune{0xfffd, 0xfffd, 0xfffd, 0x1f600}},
		{"e\u0301", []rune{'e', 0x301}}, // a width in code points, not in what is seen
	} {
		if got := utfs.Runes(c.s); !slices.Equal(got, c.want) {
			t.Errorf("Runes(%q) = %x, want %x", c.s, got, c.want)
		}
		if got := utfs.Width(c.s); got != len(c.want) {
			t.Errorf("Width(%q) = %d, want %d", c.s, got, len(c.want))
		}
	}
}

// 1.1: the encodings, written out.
func TestText(t *testing.T) {
	for _, c := range []struct {
		rs   []rune
		want string
	}{
		{nil, ""},
		{[]rune{}, ""},
		{[]rune{'a', 0, 0xe9, 0x20ac, 0x1f600}, "a\x00\xc3\xa9\xe2\x82\xac\xf0\x9f\x98\x80"},
		{[]rune{0x7f, 0x80, 0x7ff, 0x800}, "\x7f\xc2\x80\xdf\xbf\xe0\xa0\x80"},
		{[]rune{0xffff, 0x10000, 0x10ffff}, "\xef\xbf\xbf\xf0\x90\x80\x80\xf4\x8f\xbf\xbf"},
		{[]rune{0xd7ff, 0xd800, 0xdfff, 0xe000}, "\xed\x9f\xbf\xef\xbf\xbd\xef\xbf\xbd\xee\x80\x80"},
		{[]rune{-1, 'a', 0x110000}, "\xef\xbf\xbda\xef\xbf\xbd"},
		{[]rune{math.MinInt32, math.MaxInt32}, "\xef\xbf\xbd\xef\xbf\xbd"},
		{[]rune{0xfffd}, "\xef\xbf\xbd"},
	} {
		if got := utfs.Text(c.rs...); got != c.want {
			t.Errorf("Text(%x) = %q, want %q", c.rs, got, c.want)
		}
	}
	if got := utfs.Text(); got != "" {
		t.Errorf("Text() = %q", got)
	}
	if got := utfs.Text('b', 0xfc); got != "bü" {
		t.Errorf("Text('b', 0xfc) = %q", got)
	}
}

// 1.1: every number near and within the range of the code points.
func TestEveryNumber(t *testing.T) {
	for r := rune(-0x100); r <= 0x110100; r++ {
		if !isCodePoint(r) {
			if got := utfs.Text(r); got != "\xef\xbf\xbd" {
				t.Fatalf("Text(%x) = %q", r, got)
			}
			continue
		}
		s := encode(r)
		if got := utfs.Text(r); got != s {
			t.Fatalf("Text(%x) = %q, want %q", r, got, s)
		}
		if got := utfs.Runes(s); len(got) != 1 || got[0] != r {
			t.Fatalf("Runes(%q) = %x, want %x", s, got, r)
		}
		if utfs.Place(s) != -1 || utfs.Width(s) != 1 {
			t.Fatalf("%q: Place %d, Width %d", s, utfs.Place(s), utfs.Width(s))
		}
	}
}

// 1.1, 1.3: every text of two bytes.
func TestEveryPairOfBytes(t *testing.T) {
	for a := range 0x100 {
		check(t, string([]byte{byte(a)}))
		for b := range 0x100 {
			check(t, string([]byte{byte(a), byte(b)}))
		}
	}
}

// 1.1, 1.3: every text of three and of four bytes from those at which the rules of RFC 3629 change.
func TestEdgeBytes(t *testing.T) {
	edges := []byte("\x00a\x7f\x80\x8f\x90\x9f\xa0\xbd\xbf\xc0\xc1\xc2\xdf\xe0\xe1\xec\xed\xee\xef\xf0\xf1\xf3\xf4\xf5\xf8\xff")
	for _, a := range edges {
		for _, b := range edges {
			for _, c := range edges {
				check(t, string([]byte{a, b, c}))
				for _, d := range edges {
					check(t, string([]byte{a, b, c, d}))
				}
			}
		}
	}
}

// 1.2 (W1): a text either is one of code points, and comes back from them, or the first byte that is wrong is told.
func TestTotal(t *testing.T) {
	parts := []string{"", "a", "é", "€", "😀", "\ufffd", "\n", "\x80", "\xc3", "\xe2\x82", "\xed\xa0\x80", "\xff"}
	for _, a := range parts {
		for _, b := range parts {
			for _, c := range parts {
				total(t, a+b+c)
			}
		}
	}
}

func total(t *testing.T, s string) {
	t.Helper()
	back := utfs.Text(utfs.Runes(s)...)
	at := utfs.Place(s)
	if (at == -1) != (back == s) {
		t.Errorf("%q: Place %d, but comes back as %q", s, at, back)
	}
	if at == -1 {
		return
	}
	if at < 0 || at >= len(s) {
		t.Fatalf("Place(%q) = %d, outside of it", s, at)
	}
	if utfs.Place(s[:at]) != -1 || !strings.HasPrefix(back, s[:at]+"\ufffd") {
		t.Errorf("Place(%q) = %d, but it comes back as %q", s, at, back)
	}
	if utfs.Place(back) != -1 {
		t.Errorf("%q: what comes back, %q, is wrong at %d", s, back, utfs.Place(back))
	}
}

// 1.3: long texts, sound and broken, end without a panic.
func TestLong(t *testing.T) {
	for _, part := range []string{"a", "é", "\xff", "\xf0\x9f\x98", "\xed\xa0\x80😀"} {
		s := strings.Repeat(part, 100000)
		rs := utfs.Runes(s)
		if utfs.Width(s) != len(rs) || len(rs) < 100000 {
			t.Errorf("%q repeated: Width %d, Runes %d", part, utfs.Width(s), len(rs))
		}
		total(t, s)
	}
	if got := utfs.Place(strings.Repeat("€", 100000) + "\xe2"); got != 300000 {
		t.Errorf("Place = %d", got)
	}
}

// Rule 3 of DOC.md: results are new memory, and arguments stay as they are, with what lies behind them.
func TestMemory(t *testing.T) {
	s := "aé\xff"
	one := utfs.Runes(s)
	one[0] = 'x'
	_ = append(one, 'y')
	if two := utfs.Runes(s); !slices.Equal(two, []rune{'a', 0xe9, 0xfffd}) {
		t.Errorf("Runes(%q) = %x behind a change", s, two)
	}
	all := []rune{'a', -1, 'b', 'c'}
	text := utfs.Text(all[:2]...)
	if !slices.Equal(all, []rune{'a', -1, 'b', 'c'}) {
		t.Errorf("Text changed its arguments: %x", all)
	}
	all[0] = 'x'
	if text != "a\ufffd" {
		t.Errorf("Text = %q behind a change", text)
	}
}
