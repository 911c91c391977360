package rows_test

import (
	"math"
	"slices"
	"strings"
	"testing"

	"bosket/api"
	"bosket/rows"
)

// 7.1: where rows begin and end, how far they are indented, and how many bytes stand ahead of an offset, written out.
func TestPlaces(t *testing.T) {
	for _, c := range []struct {
		s                     string
		at, from, to, in, col int
	}{
		{"", 0, 0, 0, 0, 0},
		{"", -1, 0, 0, 0, 0},
		{"", 1, 0, 0, 0, 0},
		{"a", 0, 0, 1, 0, 0},
		{"a", 1, 0, 1, 0, 1}, // the end belongs to the last row
		{"a", 2, 0, 1, 0, 1}, // as does all behind it
		{"a", -2, 0, 1, 0, 0},
		{"\n", 0, 0, 0, 0, 0}, // an LF belongs to the row that it ends
		{"\n", 1, 1, 1, 0, 0}, // behind the last LF there is an empty row
		{"\n", 2, 1, 1, 0, 0},
		{"ab\ncd", 1, 0, 2, 0, 1},
		{"ab\ncd", 2, 0, 2, 0, 2},
		{"ab\ncd", 3, 3, 5, 0, 0},
		{"ab\ncd", 4, 3, 5, 0, 1},
		{"ab\ncd", 5, 3, 5, 0, 2},
		{"ab\ncd\n", 5, 3, 5, 0, 2},
		{"ab\ncd\n", 6, 6, 6, 0, 0},
		{"a\n\n\nb", 1, 0, 1, 0, 1},
		{"a\n\n\nb", 2, 2, 2, 0, 0},
		{"a\n\n\nb", 3, 3, 3, 0, 0},
		{"a\n\n\nb", 4, 4, 5, 0, 0},
		{" a", 0, 0, 2, 1, 0},
		{" a", 1, 0, 2, 1, 1},
		{" a", 2, 0, 2, 1, 2}, // the indentation is that of the row, wherever at is
		{"x\n   a b\n y", 2, 2, 8, 3, 0},
		{"x\n   a b\n y", 4, 2, 8, 3, 2},
		{"x\n   a b\n y", 8, 2, 8, 3, 6},
		{"x\n   a b\n y", 9, 9, 11, 1, 0},
		{"   ", 1, 0, 3, 3, 1}, // blanks alone
		{"  \n   x", 0, 0, 2, 2, 0},
		{"  \n   x", 2, 0, 2, 2, 2},
		{"  \n   x", 3, 3, 7, 3, 0},
		{"\ta", 1, 0, 2, 0, 1}, // a tab is no blank
		{" \t a", 3, 0, 4, 1, 3},
		{"\t", 1, 0, 1, 0, 1},
		{"a  ", 3, 0, 3, 0, 3},
		{"\u00a0a", 2, 0, 3, 0, 2}, // nor is this
		{"é€😀x", 9, 0, 10, 0, 9},   // bytes, not code points
		{"é\né", 1, 0, 2, 0, 1},    // within a code point
		{"a\rb\u0085c\u2028d\ve\fg", 5, 0, 14, 0, 5},
		{" \r\n \x00", 2, 0, 2, 1, 2}, // nothing but an LF ends a row
		{"\xff\n \xff", 4, 2, 4, 1, 2},
	} {
		if from, to := rows.Row(c.s, c.at); from != c.from || to != c.to {
			t.Errorf("Row(%q, %d) = %d, %d, want %d, %d", c.s, c.at, from, to, c.from, c.to)
		}
		if got := rows.In(c.s, c.at); got != c.in {
			t.Errorf("In(%q, %d) = %d, want %d", c.s, c.at, got, c.in)
		}
		if got := rows.Col(c.s, c.at); got != c.col {
			t.Errorf("Col(%q, %d) = %d, want %d", c.s, c.at, got, c.col)
		}
	}
}

// 7.1: kinds of rows, written out; each from every place in the row, alone and between others.
func TestKind(t *testing.T) {
	for _, c := range []struct {
		row  string
		want int
	}{
		{"--- a", api.RMark}, // the chapter's example
		{"---", api.RMark},
		{"--- ", api.RMark},
		{"---\t", api.RMark},
		{"---\ta", api.RMark},
		{"--- # a", api.RMark},
		{"--- ---", api.RMark},
		{"...", api.RDots},
		{"... ", api.RDots},
		{"...\t# a", api.RDots},
		{"... a", api.RDots},
		{"... ---", api.RDots},
		{"", api.RBlank},
		{" ", api.RBlank},
		{"\t", api.RBlank},
		{" \t  \t ", api.RBlank},
		{"#", api.RNote},
		{"# a", api.RNote},
		{"#a", api.RNote},
		{"##", api.RNote},
		{"  # a", api.RNote},
		{"\t#", api.RNote},
		{" \t \t#---", api.RNote},
		{"#---", api.RNote},
		{"a", api.RText},
		{" a", api.RText},
		{"\ta", api.RText},
		{"a # b", api.RText},
		{"a#", api.RText},
		{"-", api.RText},
		{"--", api.RText},
		{"-- -", api.RText},
		{"----", api.RText},
		{"---a", api.RText},
		{"---#", api.RText},
		{"---,", api.RText},
		{"---...", api.RText},
		{" ---", api.RText}, // not at the beginning
		{"\t---", api.RText},
		{"a---", api.RText},
		{"- --", api.RText},
		{".", api.RText},
		{"..", api.RText},
		{"....", api.RText},
		{"...a", api.RText},
		{"...#", api.RText},
		{"...---", api.RText},
		{" ...", api.RText},
		{"--.", api.RText},
		{".--", api.RText},
		{"-..", api.RText},
		{"..-", api.RText},
		{"---\r", api.RText}, // neither White nor LF
		{"---\u00a0a", api.RText},
		{"\r", api.RText},
		{"\v#", api.RText},
		{"\u00a0# a", api.RText},
		{"\u2028", api.RText},
		{"\u2014", api.RText},
		{"\x00", api.RText},
		{"\xff", api.RText},
		{"%YAML 1.2", api.RText},
		{"? a", api.RText},
	} {
		for _, above := range []string{"", "\n", "a\n", " \t\n", "# x\n", "---\n", "...\n"} {
			for _, below := range []string{"", "\n", "\na", "\n#", "\n---", "\n..."} {
				s := above + c.row + below
				for i := range len(c.row) + 1 {
					if got := rows.Kind(s, len(above)+i); got != c.want {
						t.Fatalf("Kind(%q, %d) = %d, want %d", s, len(above)+i, got, c.want)
					}
				}
			}
		}
	}
	for _, c := range []struct {
		s        string
		at, want int
	}{
		{"# a\n---", -1, api.RNote}, // numbers outside count as the beginning and the end
		{"# a\n---", 99, api.RMark},
		{"a\n", 99, api.RBlank},
		{"", 1, api.RBlank},
		{"--\n-", 0, api.RText}, // a mark is not of two rows
		{"-\n--", 2, api.RText},
		{"  \n#", 1, api.RBlank}, // nor is White
	} {
		if got := rows.Kind(c.s, c.at); got != c.want {
			t.Errorf("Kind(%q, %d) = %d, want %d", c.s, c.at, got, c.want)
		}
	}
}

// 7.2: blank rows above, written out.
func TestAbove(t *testing.T) {
	for _, c := range []struct {
		s        string
		at, want int
	}{
		{"a\n\n\n b", 5, 2}, // the chapter's example
		{"a\n\n\n b", 4, 2},
		{"a\n\n\n b", 6, 0}, // a byte ahead of at is not White
		{"a\n\n\n b", 3, 1}, // from within the blank rows
		{"a\n\n\n b", 2, 0},
		{"a\n\n\n b", 1, 0},
		{"", 0, 0},
		{"", -1, 0},
		{"", 1, 0},
		{"a", 0, 0},
		{"a", 1, 0},
		{"  a", 2, 0}, // no row above
		{"\n", 0, 0},
		{"\n", 1, 1},
		{"\n", 2, 1},
		{"\n\n\n", 3, 3}, // up to the beginning
		{"\n\n\n", 2, 2},
		{"\n\n\n", -9, 0},
		{"\n\n\n", 99, 3},
		{"\n\na", 2, 2},
		{"\n\na", 3, 0},
		{"a\nb", 2, 0},
		{"a\n\nb", 3, 1},
		{"a\n\nb", 4, 0},
		{"a\n\n\t b", 5, 1},
		{"a\n\n\t b", 4, 1}, // White ahead of at, and White behind it
		{"a\n\n\t b", 3, 1},
		{"a\n\nb c", 5, 0}, // White directly ahead, and not only that
		{"a\n\nb  c", 6, 0},
		{"a\n\n b\t c", 7, 0},
		{"a\n \n\t\n \t \nb", 10, 3}, // a blank row is of White, or empty
		{" \nb", 2, 1},
		{"\t\n b", 3, 1},
		{"a \nb", 3, 0}, // White at the end makes no row blank
		{"a \n\nb", 4, 1},
		{" a\n\nb", 4, 1},
		{" a\nb", 3, 0},
		{"\n\na\nb", 4, 0}, // only those directly above
		{"\n\na\n\nb", 5, 1},
		{"\n# c\n\nb", 6, 1},
		{"\n# c\nb", 5, 0}, // a comment is no blank row
		{"\n---\n\n- b", 6, 1},
		{"\n...\nb", 5, 0},
		{"a\n\r\nb", 4, 0}, // nor is a row of these
		{"a\n\u00a0\nb", 5, 0},
		{"a\n\n\rb", 4, 0},
		{"a\n\n\u00a0b", 5, 0},
		{"a\n\n\xff", 3, 1},
		{"a\n\n\xff", 4, 0},
		{"a\n\né", 4, 0}, // within a code point
	} {
		if got := rows.Above(c.s, c.at); got != c.want {
			t.Errorf("Above(%q, %d) = %d, want %d", c.s, c.at, got, c.want)
		}
	}
}

// answers is what the calls tell of an offset.
type answers struct {
	from, to, in, col, kind, above int
}

func ask(s string, at int) answers {
	from, to := rows.Row(s, at)
	return answers{from, to, rows.In(s, at), rows.Col(s, at), rows.Kind(s, at), rows.Above(s, at)}
}

// blank reports whether nothing but White is in s.
func blank(s string) bool {
	return strings.Trim(s, " \t") == ""
}

// kind works the kind of a row out from the chapter's words.
func kind(row string) int {
	for mark, kind := range map[string]int{"---": api.RMark, "...": api.RDots} {
		if row == mark || strings.HasPrefix(row, mark+" ") || strings.HasPrefix(row, mark+"\t") {
			return kind
		}
	}
	switch {
	case blank(row):
		return api.RBlank
	case strings.Trim(row, " \t")[0] == '#':
		return api.RNote
	}
	return api.RText
}

// want works what the calls tell out from all rows of s.
func want(s string, at int) answers {
	at = min(max(at, 0), len(s))
	all := strings.Split(s, "\n")
	n := strings.Count(s[:at], "\n")
	row := all[n]
	from := 0
	for _, r := range all[:n] {
		from += len(r) + 1
	}
	above := 0
	for blank(s[from:at]) && above < n && blank(all[n-1-above]) {
		above++
	}
	return answers{from, from + len(row), len(row) - len(strings.TrimLeft(row, " ")), at - from, kind(row), above}
}

// check holds all calls against the chapter's words for s, at every place in it and outside of it.
func check(t *testing.T, s string) {
	t.Helper()
	for at := -2; at <= len(s)+2; at++ {
		if got, want := ask(s, at), want(s, at); got != want {
			t.Fatalf("at %d of %q: %+v, want %+v", at, s, got, want)
		}
	}
}

// every calls use with all texts of at most most of these parts.
func every(parts []string, most int, use func(string)) {
	var longer func(string, int)
	longer = func(s string, n int) {
		use(s)
		if n == most {
			return
		}
		for _, p := range parts {
			longer(s+p, n+1)
		}
	}
	longer("", 0)
}

// 7.1, 7.2, 7.4: every text of one and of two bytes.
func TestEveryPairOfBytes(t *testing.T) {
	for a := range 0x100 {
		check(t, string([]byte{byte(a)}))
		for b := range 0x100 {
			check(t, string([]byte{byte(a), byte(b)}))
		}
	}
}

// 7.1, 7.2: every byte behind a mark, in the place of each byte of one, and at the places that make a row blank or not.
func TestEveryByte(t *testing.T) {
	for i := range 0x100 {
		c := string([]byte{byte(i)})
		for _, s := range []string{"---", "...", "--- ", "...\t#", " \t", "\n\n", "\n \n\t", "a\n\n  "} {
			for at := range len(s) + 1 {
				check(t, s[:at]+c+s[at:])
				check(t, "\n"+s[:at]+c+s[min(at+1, len(s)):]+"\n\nb")
			}
		}
	}
}

// 7.1, 7.2: every text of up to six parts, of up to four of many more, and of up to ten of the fewest.
func TestEveryText(t *testing.T) {
	every([]string{"\n", " ", "a"}, 10, func(s string) { check(t, s) })
	every([]string{"\n", " ", "\t", "#", "---", "..."}, 6, func(s string) { check(t, s) })
	every([]string{"\n", " ", "\t", "a", "#", "-", "--", ".", "---", "...", "\r", "\v", "\x00", "é", "\u0085", "\u00a0", "\u2028", "😀", "\xff"}, 4, func(s string) { check(t, s) })
}

// 7.1: rows follow one another, with one LF between, and no byte is left out or told twice.
func TestRowsOfText(t *testing.T) {
	every([]string{"\n", " ", "a", "---"}, 7, func(s string) {
		at := 0
		for from, to := rows.Row(s, 0); ; from, to = rows.Row(s, at) {
			if from != at || to < from || strings.Contains(s[from:to], "\n") {
				t.Fatalf("Row(%q, %d) = %d, %d", s, at, from, to)
			}
			if to == len(s) {
				return
			}
			if s[to] != '\n' {
				t.Fatalf("Row(%q, %d) = %d, %d", s, at, from, to)
			}
			at = to + 1
		}
	})
}

// shown is what rows tells of a row that is not blank.
type shown struct {
	kind, in, above int
	text            string
}

// show returns what rows tells of the rows of s that are not blank.
func show(s string) []shown {
	var all []shown
	for at := 0; at <= len(s); {
		from, to := rows.Row(s, at)
		if k := rows.Kind(s, at); k != api.RBlank {
			in := rows.In(s, at)
			all = append(all, shown{k, in, rows.Above(s, from+in), strings.TrimRight(s[from+in:to], " \t")})
		}
		at = max(at, to) + 1
	}
	return all
}

// written writes rows by nothing but what rows told of them.
func written(all []shown) string {
	var out strings.Builder
	for _, r := range all {
		out.WriteString(strings.Repeat("\n", r.above) + strings.Repeat(" ", r.in) + r.text + "\n")
	}
	return out.String()
}

// 7.3 (W4): a text that is written from what rows tells of it, with its blank rows empty, and no White at the end of a row, is told the same of, and so is written the same again.
func TestStable(t *testing.T) {
	every([]string{"\n", " ", "\t", "a", "#", "---", "..."}, 6, func(s string) {
		first := show(s)
		once := written(first)
		second := show(once)
		if !slices.Equal(first, second) {
			t.Fatalf("%q has the rows %+v, %q has %+v", s, first, once, second)
		}
		if twice := written(second); twice != once {
			t.Fatalf("%q is written as %q, and that as %q", s, once, twice)
		}
	})
}

// 7.1, 7.2, 7.4: numbers outside, however far, count as the beginning and the end.
func TestFarNumbers(t *testing.T) {
	for _, s := range []string{"", "a", " a", "\n", "\n\n", " \n\t", "---", "a\n...", "\n\n  # b", "é\xff", "\n é\xff"} {
		for _, at := range []int{math.MinInt, math.MinInt + 1, math.MinInt32, -1} {
			if got, want := ask(s, at), want(s, 0); got != want {
				t.Errorf("at %d of %q: %+v, want %+v", at, s, got, want)
			}
		}
		for _, at := range []int{len(s) + 1, math.MaxInt32, math.MaxInt - 1, math.MaxInt} {
			if got, want := ask(s, at), want(s, len(s)); got != want {
				t.Errorf("at %d of %q: %+v, want %+v", at, s, got, want)
			}
		}
	}
}

// 7.1, 7.2, 7.4: long rows, and many of them, end.
func TestLong(t *testing.T) {
	const n = 1 << 20
	feeds, blanks, tabs := strings.Repeat("\n", n), strings.Repeat(" ", n), strings.Repeat("\t", n)
	for _, c := range []struct {
		name string
		s    string
		at   int
		want answers
	}{
		{"blank rows", feeds, n, answers{n, n, 0, 0, api.RBlank, n}},
		{"blank rows, from the middle", feeds, n / 2, answers{n / 2, n / 2, 0, 0, api.RBlank, n / 2}},
		{"blank rows between", "a" + feeds + "b", n + 1, answers{n + 1, n + 2, 0, 0, api.RText, n - 1}},
		{"rows of White", strings.Repeat(" \t\n", n) + "#", 3 * n, answers{3 * n, 3*n + 1, 0, 0, api.RNote, n}},
		{"a row of blanks", blanks, n, answers{0, n, n, n, api.RBlank, 0}},
		{"a row of blanks, from the middle", "\n" + blanks, n / 2, answers{1, n + 1, n, n/2 - 1, api.RBlank, 1}},
		{"a row of tabs", "\n" + tabs + "#", n + 1, answers{1, n + 2, 0, n, api.RNote, 1}},
		{"far in", "\n" + blanks + "a", n + 1, answers{1, n + 2, n, n, api.RText, 1}},
		{"a long row", "\n" + strings.Repeat("a", n), n, answers{1, n + 1, 0, n - 1, api.RText, 0}},
		{"a long row with a mark", "\n\n... " + blanks + "\n", n, answers{2, n + 6, 0, n - 2, api.RDots, 0}},
		{"many rows", strings.Repeat("a\n", n), 2 * n, answers{2 * n, 2 * n, 0, 0, api.RBlank, 0}},
	} {
		if got := ask(c.s, c.at); got != c.want {
			t.Errorf("%s, %d: %+v, want %+v", c.name, n, got, c.want)
		}
	}
}
