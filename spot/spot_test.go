package spot_test

import (
	"math"
	"strings"
	"testing"
	"unicode/utf8"

	"bosket/spot"
)

// 3.1: lines and columns, written out.
func TestAt(t *testing.T) {
	for _, c := range []struct {
		s             string
		at, line, col int
	}{
		{"é\nab", 4, 2, 2}, // the chapter's example
		{"é\nab", 0, 1, 1},
		{"é\nab", 2, 1, 2}, // an LF stands on the line that it ends
		{"é\nab", 3, 2, 1},
		{"é\nab", 5, 2, 3}, // the end
		{"", 0, 1, 1},
		{"a", 1, 1, 2},
		{"a\n", 2, 2, 1}, // behind the last LF another line begins
		{"\n\n\n", 0, 1, 1},
		{"\n\n\n", 2, 3, 1},
		{"\n\n\n", 3, 4, 1},
		{"ab\ncd\nef", 7, 3, 2},
		{"€uro", 3, 1, 2}, // columns are code points
		{"😀é€a", 9, 1, 4},
		{"e\u0301x", 3, 1, 3},
		{"\ta", 1, 1, 2}, // a tab is one column
		{"a\rb", 2, 1, 3},
		{"\u0085\u2028a", 5, 1, 3}, // LF alone ends a line
		{"\ufeffa", 3, 1, 2},
		{"a\xff\xffb", 3, 1, 4}, // each wrong byte is one column
		{"\xe2\x82\nb", 2, 1, 3},
		{"\xe2\x82\nb", 3, 2, 1},
		{"\ufffd\xffa", 4, 1, 3},
	} {
		if line, col := spot.At(c.s, c.at); line != c.line || col != c.col {
			t.Errorf("At(%q, %d) = %d %d, want %d %d", c.s, c.at, line, col, c.line, c.col)
		}
	}
}

// 3.1: the bytes ahead of an offset within a code point are none, so each of them is a column.
func TestAtWithin(t *testing.T) {
	for _, c := range []struct {
		s       string
		at, col int
	}{
		{"é", 1, 2},
		{"é", 2, 2},
		{"€", 1, 2},
		{"€", 2, 3},
		{"€", 3, 2},
		{"😀", 1, 2},
		{"😀", 2, 3},
		{"😀", 3, 4},
		{"😀", 4, 2},
		{"aé€b", 4, 4},
		{"aé€b", 5, 5},
		{"aé€b", 6, 4},
	} {
		if line, col := spot.At(c.s, c.at); line != 1 || col != c.col {
			t.Errorf("At(%q, %d) = %d %d, want 1 %d", c.s, c.at, line, col, c.col)
		}
	}
}

// 3.1: an offset outside of the text is clamped.
func TestAtClamped(t *testing.T) {
	for _, s := range []string{"", "a", "\n", "a\nbé", "é\n", "\xff\n\xe2"} {
		endLine, endCol := spot.At(s, len(s))
		for _, far := range []int{1, 2, 1000, math.MaxInt32, math.MaxInt - len(s)} {
			if line, col := spot.At(s, len(s)+far); line != endLine || col != endCol {
				t.Errorf("At(%q, %d) = %d %d, want %d %d", s, len(s)+far, line, col, endLine, endCol)
			}
		}
		for _, at := range []int{-1, -2, -1000, math.MinInt32, math.MinInt} {
			if line, col := spot.At(s, at); line != 1 || col != 1 {
				t.Errorf("At(%q, %d) = %d %d, want 1 1", s, at, line, col)
			}
		}
	}
}

// 3.1: offsets, written out, and places at which there is none.
func TestBack(t *testing.T) {
	for _, c := range []struct {
		s             string
		line, col, at int
		ok            bool
	}{
		{"a\nb", 2, 1, 2, true}, // the chapter's example
		{"a\nb", 1, 1, 0, true},
		{"a\nb", 1, 2, 1, true}, // the LF
		{"a\nb", 1, 3, 0, false},
		{"a\nb", 1, 4, 0, false},
		{"a\nb", 2, 2, 3, true}, // the end
		{"a\nb", 2, 3, 0, false},
		{"a\nb", 3, 1, 0, false},
		{"", 1, 1, 0, true},
		{"", 1, 2, 0, false},
		{"", 2, 1, 0, false},
		{"a\n", 2, 1, 2, true},
		{"a\n", 2, 2, 0, false},
		{"\n\n", 2, 1, 1, true},
		{"\n\n", 2, 2, 0, false},
		{"\n\n", 3, 1, 2, true},
		{"éa", 1, 2, 2, true},
		{"éa", 1, 3, 3, true},
		{"é", 1, 3, 0, false},
		{"€", 1, 2, 3, true}, // At says so of offset 1, too, but nothing begins there
		{"€", 1, 3, 0, false},
		{"€", 1, 4, 0, false},
		{"😀b\n€é", 1, 3, 5, true},
		{"😀b\n€é", 2, 2, 9, true},
		{"😀b\n€é", 2, 3, 11, true},
		{"a\xff\xffb", 1, 4, 3, true},
		{"\xe2\x82\nb", 1, 2, 1, true}, // a wrong byte is one of the Runes
		{"\xe2\x82\nb", 1, 3, 2, true},
		{"\xe2\x82\nb", 2, 1, 3, true},
		{"a\r\u0085\u2028b", 1, 5, 7, true},
		{"a\r\u0085\u2028b", 2, 1, 0, false},
		{"a", 0, 1, 0, false},
		{"a", 1, 0, 0, false},
		{"a", 0, 0, 0, false},
		{"a", -1, 1, 0, false},
		{"a", 1, -1, 0, false},
		{"a\nb", 2, 0, 0, false},
		{"a\nb", math.MaxInt, 1, 0, false},
		{"a\nb", 1, math.MaxInt, 0, false},
		{"a\nb", math.MinInt, math.MinInt, 0, false},
	} {
		if at, ok := spot.Back(c.s, c.line, c.col); at != c.at || ok != c.ok {
			t.Errorf("Back(%q, %d, %d) = %d %v, want %d %v", c.s, c.line, c.col, at, ok, c.at, c.ok)
		}
	}
}

// 3.1: how many lines there are, written out.
func TestLines(t *testing.T) {
	for s, want := range map[string]int{
		"":                             1,
		"a":                            1,
		"a\n":                          2,
		"\n":                           2,
		"\n\nb":                        3,
		"a\nb\nc":                      3,
		"a\r\nb\r":                     2,
		"a\u0085b\u2028c\u2029\v\fd":   1,
		"\xff\n\xe2\x82\n\xff":         3,
		"é\n€\n😀":                      3,
		"\u010a\u0a0a\u200a\U0001000a": 1, // no LF bytes, though their numbers end like it
	} {
		if got := spot.Lines(s); got != want {
			t.Errorf("Lines(%q) = %d, want %d", s, got, want)
		}
	}
}

// placeOf tells an offset within s by the words of the chapter, byte by byte.
func placeOf(s string, at int) (int, int) {
	line, begin := 1, 0
	for i := range at {
		if s[i] == '\n' {
			line, begin = line+1, i+1
		}
	}
	return line, utf8.RuneCountInString(s[begin:at]) + 1
}

// begins returns the offsets at which one of the code points of s begins, and its end.
func begins(s string) []int {
	var all []int
	at := 0
	for at < len(s) {
		all = append(all, at)
		_, n := utf8.DecodeRuneInString(s[at:])
		at += n
	}
	return append(all, at)
}

// offsetOf looks for a line and a column among all that begins in s.
func offsetOf(s string, line, col int) (int, bool) {
	for _, at := range begins(s) {
		if l, c := placeOf(s, at); l == line && c == col {
			return at, true
		}
	}
	return 0, false
}

// check holds every call against what the chapter's words say of s.
func check(t *testing.T, s string) {
	t.Helper()
	for at := range len(s) + 1 {
		line, col := placeOf(s, at)
		if l, c := spot.At(s, at); l != line || c != col {
			t.Fatalf("At(%q, %d) = %d %d, want %d %d", s, at, l, c, line, col)
		}
	}
	last, _ := placeOf(s, len(s))
	if got := spot.Lines(s); got != last {
		t.Fatalf("Lines(%q) = %d, want %d", s, got, last)
	}
	for line := -1; line <= last+1; line++ {
		for col := -1; col <= len(s)+2; col++ {
			at, ok := offsetOf(s, line, col)
			if a, k := spot.Back(s, line, col); a != at || k != ok {
				t.Fatalf("Back(%q, %d, %d) = %d %v, want %d %v", s, line, col, a, k, at, ok)
			}
		}
	}
}

// 3.1: every text of up to four parts, every offset, every line and column.
func TestEveryText(t *testing.T) {
	parts := []string{"", "a", "\n", "\r", "é", "€", "😀", "\ufffd", "\xff", "\xc3", "\xe2\x82", "\xbf"}
	for _, a := range parts {
		for _, b := range parts {
			for _, c := range parts {
				for _, d := range parts {
					check(t, a+b+c+d)
				}
			}
		}
	}
}

// 3.1, 3.3: every text of one and of two bytes.
func TestEveryPairOfBytes(t *testing.T) {
	for a := range 0x100 {
		check(t, string([]byte{byte(a)}))
		for b := range 0x100 {
			check(t, string([]byte{byte(a), byte(b)}))
		}
	}
}

// 3.2 (W1): every offset has a line and a column from 1, and whatever begins in a text is found again by them.
func TestTotal(t *testing.T) {
	for _, s := range []string{"", "\n", "a: b\n- é\n", "€\n\n😀\xff\xe2\x82\nz", "\xff\n\xc3", strings.Repeat("ab\n", 50)} {
		for at := -3; at <= len(s)+3; at++ {
			line, col := spot.At(s, at)
			if line < 1 || line > spot.Lines(s) || col < 1 || col > len(s)+1 {
				t.Errorf("At(%q, %d) = %d %d", s, at, line, col)
			}
		}
		for _, at := range begins(s) {
			line, col := spot.At(s, at)
			if back, ok := spot.Back(s, line, col); back != at || !ok {
				t.Errorf("Back(%q, %d, %d) = %d %v, want %d", s, line, col, back, ok, at)
			}
		}
	}
}

// 3.3: no numbers, however far outside, make a call panic.
func TestFarNumbers(t *testing.T) {
	numbers := []int{math.MinInt, math.MinInt32, -1, 0, 1, 2, 3, math.MaxInt32, math.MaxInt - 1, math.MaxInt}
	for _, s := range []string{"", "a", "\n", "€\nb\xff"} {
		for _, line := range numbers {
			spot.At(s, line)
			for _, col := range numbers {
				at, ok := offsetOf(s, line, col)
				if a, k := spot.Back(s, line, col); a != at || k != ok {
					t.Errorf("Back(%q, %d, %d) = %d %v, want %d %v", s, line, col, a, k, at, ok)
				}
			}
		}
	}
}

// 3.1, 3.3: long texts, in one row and in many.
func TestLong(t *testing.T) {
	const n = 200000
	for _, part := range []string{"a", "é", "€", "😀", "\xff"} {
		s := strings.Repeat(part, n)
		if line, col := spot.At(s, len(s)); line != 1 || col != n+1 {
			t.Errorf("At the end of %q repeated = %d %d", part, line, col)
		}
		if at, ok := spot.Back(s, 1, n+1); at != len(s) || !ok {
			t.Errorf("Back to the end of %q repeated = %d %v", part, at, ok)
		}
		if at, ok := spot.Back(s, 1, n+2); at != 0 || ok {
			t.Errorf("Back behind the end of %q repeated = %d %v", part, at, ok)
		}
	}
	s := strings.Repeat("é\n", n)
	if line, col := spot.At(s, len(s)-1); line != n || col != 2 {
		t.Errorf("At the last LF = %d %d", line, col)
	}
	if at, ok := spot.Back(s, n, 2); at != len(s)-1 || !ok {
		t.Errorf("Back to the last LF = %d %v", at, ok)
	}
	if at, ok := spot.Back(s, n+1, 1); at != len(s) || !ok {
		t.Errorf("Back to the end = %d %v", at, ok)
	}
	if got := spot.Lines(s); got != n+1 {
		t.Errorf("Lines = %d", got)
	}
}
