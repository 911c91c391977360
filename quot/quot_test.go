package quot_test

import (
	"math"
	"regexp"
	"strconv"
	"strings"
	"testing"
	"unicode/utf8"
	"unsafe"

	"bosket/api"
	"bosket/esca"
	"bosket/quot"
)

// The chapter's words for what the contents of a scalar are made of, for what stands between its rows (of the classes that classes tells), and for the mark of a row.
var (
	single  = regexp.MustCompile(`\A(?s:''|[^'])`)
	double  = regexp.MustCompile(`\A(?s:\\\n|\\[0abtnvfre\t "/\\N_LP]|\\x[0-9a-fA-F]{2}|\\u[0-9a-fA-F]{4}|\\U[0-9a-fA-F]{8}|[^"\\])`)
	between = regexp.MustCompile(`(?:w*n|x)w*(?:nw*)*`)
	mark    = regexp.MustCompile(`\A(?:---|\.\.\.)(?:[ \t]|\z)`)
	feeds   = regexp.MustCompile(`\n+`)
)

// What the letters of escape sequences stand for.
var letters = map[byte]rune{'0': 0, 'a': 7, 'b': 8, 't': 9, 'n': 10, 'v': 11, 'f': 12, 'r': 13, 'e': 27, '\t': 9, ' ': ' ', '"': '"', '/': '/', '\\': '\\', 'N': 0x85, '_': 0xa0, 'L': 0x2028, 'P': 0x2029}

// answer is what Read tells.
type answer struct {
	text string
	to   int
	one  bool
	e    api.Errno
}

func read(s string, at, n int) answer {
	text, to, one, e := quot.Read(s, at, n)
	return answer{text, to, one, e}
}

// point returns the code point for which an escape sequence stands, and whether there is one.
func point(sequence string) (rune, bool) {
	if len(sequence) == 2 {
		return letters[sequence[1]], true
	}
	n, err := strconv.ParseInt(sequence[2:], 16, 64)
	return rune(n), err == nil && n <= utf8.MaxRune && (n < 0xd800 || n > 0xdfff)
}

// contents returns what the contents of the scalar are made of that begins at at, each part by its class (w for White, n for a line feed, x for a \ ahead of one, c for anything else) and by what it stands for; and where they end.
func contents(s string, at int) (classes string, parts []string, end int) {
	next := single
	if s[at] == '"' {
		next = double
	}
	for end = at + 1; ; {
		part := next.FindString(s[end:])
		class := "c"
		switch {
		case part == "":
			return classes, parts, end
		case part == "\\\n":
			class, part = "x", ""
			end += 2
		case part == "''":
			part = "'"
			end += 2
		case part[0] == '\\' && s[at] == '"':
			r, ok := point(part)
			if !ok {
				return classes, parts, end
			}
			end += len(part)
			part = string(r)
		default:
			switch part {
			case " ", "\t":
				class = "w"
			case "\n":
				class = "n"
			}
			part = s[end : end+len(part)]
			end += len(part)
		}
		classes += class
		parts = append(parts, part)
	}
}

// wrongRow returns the first offset in the rows that begin from at to end at which one can't belong to a scalar, or -1.
func wrongRow(s string, at, end, n int) int {
	for i := at; i < end; i++ {
		if s[i] != '\n' {
			continue
		}
		row, _, _ := strings.Cut(s[i+1:], "\n")
		text := strings.TrimLeft(row, " \t")
		in := len(row) - len(strings.TrimLeft(row, " "))
		switch {
		case mark.MatchString(row):
			return i + 1
		case text != "" && in <= n:
			return i + 1 + len(row) - len(text)
		}
	}
	return -1
}

// wantRead works Read out from the chapter's words, by what stands between the rows.
func wantRead(s string, at, n int) answer {
	if at < 0 || at >= len(s) || s[at] != '\'' && s[at] != '"' {
		return answer{to: at, e: api.ErrForm}
	}
	classes, parts, end := contents(s, at)
	if wrong := wrongRow(s, at, end, n); wrong >= 0 {
		return answer{to: wrong, e: api.ErrForm}
	}
	if end == len(s) || s[end] != s[at] {
		return answer{to: end, e: api.ErrForm}
	}
	text, done := "", 0
	for _, gap := range between.FindAllStringIndex(classes, -1) {
		text += strings.Join(parts[done:gap[0]], "")
		done = gap[1]
		count := strings.Count(classes[gap[0]:gap[1]], "n")
		switch {
		case classes[gap[0]] == 'x':
			text += strings.Repeat("\n", count)
		case count == 1:
			text += " "
		default:
			text += strings.Repeat("\n", count-1)
		}
	}
	return answer{text + strings.Join(parts[done:], ""), end + 1, !strings.Contains(s[at:end], "\n"), api.OK}
}

// checkAt holds Read against the chapter's words at one offset of s.
func checkAt(t *testing.T, s string, at int, columns ...int) {
	t.Helper()
	for _, n := range columns {
		if got, want := read(s, at, n), wantRead(s, at, n); got != want {
			t.Fatalf("Read(%q, %d, %d) = %+v, want %+v", s, at, n, got, want)
		}
	}
}

// check holds Read against the chapter's words at every place in s and outside of it.
func check(t *testing.T, s string) {
	t.Helper()
	for at := -1; at <= len(s)+1; at++ {
		checkAt(t, s, at, -1, 0, 1)
	}
}

// every calls use with all texts of at most most of these parts.
func every(parts []string, most int, use func(string)) {
	var longer func(string, int)
	longer = func(s string, n int) {
		use(s)
		if n == most {
			return
		}
		for _, p := range parts {
			longer(s+p, n+1)
		}
	}
	longer("", 0)
}

// scalars are quoted scalars, each the whole of its text, within a collection of the column n: what they stand for, and whether they lie in one row.
var scalars = []struct {
	s    string
	n    int
	text string
	one  bool
}{
	{"'a''b'", -1, "a'b", true}, {"\"a \\\n b\"", -1, "a b", false}, // the chapter's examples
	{"''", 0, "", true}, {"\"\"", 0, "", true}, {"' '", 0, " ", true}, {"\" \"", 0, " ", true}, {"'\t '", -1, "\t ", true}, {"' a '", 5, " a ", true}, {"\"\ta \"", 5, "\ta ", true}, {"'a b  c'", 0, "a b  c", true}, {"'é€😀'", 0, "é€😀", true}, {"\"é€😀\"", 0, "é€😀", true}, {"'\xff\xc3'", 0, "\xff\xc3", true}, {"\"\xff\xc3\"", 0, "\xff\xc3", true}, {"'\x00\r\ufeff\v'", 0, "\x00\r\ufeff\v", true}, {"'# a: b, [c] {d} - &e *f !g |h >i %j @k `l'", 0, "# a: b, [c] {d} - &e *f !g |h >i %j @k `l", true}, {"\" # a\"", 0, " # a", true}, {"'--- '", -1, "--- ", true}, {"\"...\"", -1, "...", true}, // one row
	{"''''", 0, "'", true}, {"''''''", 0, "''", true}, {"'''a'", 0, "'a", true}, {"'a'''", 0, "a'", true}, {"' '' '", 0, " ' ", true}, {"'\"'", 0, "\"", true}, {"'\"\"'", 0, "\"\"", true}, {"\"'\"", 0, "'", true}, {"\"''\"", 0, "''", true}, {"\"\\\"\"", 0, "\"", true}, {"\"a\\\"\\\"b\"", 0, "a\"\"b", true}, {"'a''\n''b'", -1, "a' 'b", false}, {"'a '' \n '' b'", 0, "a ' ' b", false}, {"'a\n'''", -1, "a '", false}, {"'''\n'", -1, "' ", false}, {"'\n''\n'", -1, " ' ", false}, // quotes
	{"'\\'", 0, "\\", true}, {"'\\n\\x'", 0, "\\n\\x", true}, {"'a\\\nb'", -1, "a\\ b", false}, {"'\\\\'", 0, "\\\\", true}, {"'\\''\\'", 0, "\\'\\", true}, {"'a \\\n b'", 0, "a \\ b", false}, // a \ that is none of either
	{"\"\\0\\a\\b\\t\\n\\v\\f\\r\\e\"", 0, "\x00\a\b\t\n\v\f\r\x1b", true}, {"\"\\\t\\ \\\"\\/\\\\\"", 0, "\t \"/\\", true}, {"\"\\N\\_\\L\\P\"", 0, "\u0085\u00a0\u2028\u2029", true}, {"\"\\x41\\u00E9\\U0001f600\"", 0, "Aé😀", true}, {"\"a\\x41b\"", 0, "aAb", true}, {"\"\\\\\\\\\"", 0, "\\\\", true}, {"\"\\\\n\"", 0, "\\n", true}, {"\"\\x411\"", 0, "A1", true}, {"\"\\u00e9e\"", 0, "ée", true}, {"\"\\xff\"", 0, "ÿ", true}, {"\"\\uFFFD\"", 0, "\ufffd", true}, {"\"\\x00\\U0010FFFF\"", 0, "\x00\U0010ffff", true}, {"\"é\\té\"", 0, "é\té", true}, {"\"\xff\\t\xc3\"", 0, "\xff\t\xc3", true}, // escape sequences
	{"'a\nb'", -1, "a b", false}, {"\"a\nb\"", -1, "a b", false}, {"'a\n b'", 0, "a b", false}, {"'a\n b\n  c\n d'", 0, "a b c d", false}, {"\"a\n  b\"", 1, "a b", false}, {"'a\n    b'", 3, "a b", false}, {"'a\nb'", -2, "a b", false}, {"'é\n é'", 0, "é é", false}, {"\"\xff\n \xff\"", 0, "\xff \xff", false}, {"'a\rb\u0085c\u2028d'", 0, "a\rb\u0085c\u2028d", true}, {"'\u010a'", 0, "\u010a", true}, // several rows
	{"'a \t\n b'", 0, "a b", false}, {"'a\n \t b'", 0, "a b", false}, {"\"a\t\n\t b\t\"", -1, "a b\t", false}, {"'a \n\n  b '", -1, "a\nb ", false}, {"' a\n b '", 0, " a b ", false}, {"\"\ta \n b \t\"", 0, "\ta b \t", false}, {"'a\u00a0\n\u00a0b'", -1, "a\u00a0 \u00a0b", false}, {"'a\u0120\n \u0109b'", 0, "a\u0120 \u0109b", false}, {"'a\r\n b\v'", 0, "a\r b\v", false}, {"'a \n b \n c \n d '", 0, "a b c d ", false}, // White where rows begin and end
	{"'a\n\nb'", -1, "a\nb", false}, {"'a\n\n\n b'", 0, "a\n\nb", false}, {"'a\n  \n b'", 0, "a\nb", false}, {"\"a\n \t\n\t\n\n b\"", 0, "a\n\n\nb", false}, {"'a\n\n b\n c\n\n\n d'", 0, "a\nb c\n\nd", false}, {"'a\n      \n b'", 0, "a\nb", false}, {"'a\n\n     b'", 4, "a\nb", false}, {"'a\n\t\n    b'", 3, "a\nb", false}, {"'\v\n\n\v'", -1, "\v\n\v", false}, // blank rows, however far in they are
	{"'\n'", -1, " ", false}, {"\"\n\"", -1, " ", false}, {"'\n\n'", -1, "\n", false}, {"'\n\n\n'", -1, "\n\n", false}, {"'a\n'", -1, "a ", false}, {"'\na'", -1, " a", false}, {"'  \n a'", 0, " a", false}, {"'a\n  '", 1, "a ", false}, {"' \n '", 0, " ", false}, {"' \n\t\n '", 0, "\n", false}, {"'\n\na'", -1, "\na", false}, {"\"a\n\n\"", -1, "a\n", false}, {"'\n a\n '", 0, " a ", false}, // a first and a last row that are empty
	{"\"a\\\nb\"", -1, "ab", false}, {"\"a\\\n b\"", 0, "ab", false}, {"\"a  \\\n b\"", 0, "a  b", false}, {"\"a\t\\\n\t b\"", -1, "a\tb", false}, {"\"a\\\n b\\\n c\"", 0, "abc", false}, {"\"a\\\n b\n c\"", 0, "ab c", false}, {"\"a\n b\\\n c\"", 0, "a bc", false}, {"\"a \\\n \\ b\"", 0, "a  b", false}, {"\"a\\\\\n b\"", 0, "a\\ b", false}, {"\"a\\\\\\\n b\"", 0, "a\\b", false}, {"\"  \\\n b\"", 0, "  b", false}, // a \ that ends a row
	{"\"a\\\n\nb\"", -1, "a\nb", false}, {"\"a\\\n\n\n\n b\"", 0, "a\n\n\nb", false}, {"\"a\\\n \t\n b\"", 0, "a\nb", false}, {"\"a \\\n\n b\"", 0, "a \nb", false}, {"\"a\\\n\n b\n\n c\"", 0, "a\nb\nc", false}, {"\"a\n\n b\\\n\n\n c\"", 0, "a\nb\n\nc", false}, // and blank rows below it
	{"\"a\n\\\nb\"", -1, "a b", false}, {"\"a\n\\\n b\"", -1, "a b", false}, {"\"a\n\n\\\n\n\n b\"", -1, "a\n\n\nb", false}, {"\"a\\\n\\\nb\"", -1, "ab", false}, {"\"a\\\n\n\\\n\nb\"", -1, "a\n\nb", false}, {"\"\\\n\"", -1, "", false}, {"\"\\\n\n\"", -1, "\n", false}, {"\"\\\n\\\n\"", -1, "", false}, {"\"\\\na\"", -1, "a", false}, {"\"\\\n\na\"", -1, "\na", false}, {"\"a\\\n\"", -1, "a", false}, {"\"a\\\n  \"", 1, "a", false}, {"\"a\\\n\n\n\"", -1, "a\n\n", false}, {"\"\n\\\n\"", -1, " ", false}, {"\"\n\n\\\n\"", -1, "\n", false}, // also if it is empty
	{"\"a\n  \\\n b\"", 0, "a b", false}, {"\"a\\\n  \\\n b\"", 0, "ab", false}, {"\"a\n\t\\\n\n b\"", -1, "a \nb", false}, {"\"a\n \\\n \\\n \"", 0, "a ", false}, // or has White alone, with which the row begins
	{"\"\\t\n a\\ \n b\"", 0, "\t a  b", false}, {"\"a\\ \\t\n b\"", 0, "a \t b", false}, {"\"a\\  \t\n b\"", 0, "a  b", false}, {"\"a \\x20\n b\"", 0, "a   b", false}, {"\"a\\\t\n b\"", 0, "a\t b", false}, {"\"a\n \\ b\"", 0, "a  b", false}, {"\"a\n \\t b\"", 0, "a \t b", false}, {"\"a\n \\\t\tb\"", 0, "a \t\tb", false}, {"\"\\ \n\\ \n\\ \"", -1, "     ", false}, {"\"a\n\\ \n\nb\"", -1, "a  \nb", false}, {"\"a\\ \\\n b\"", 0, "a b", false}, {"\"a\\ \\\n \\ b\"", 0, "a  b", false}, {"\"a\\x20 \\\n b\"", 0, "a  b", false}, {"\"a\\u0009\\u0020 \n\n b\"", 0, "a\t \nb", false}, // White by escape sequences
	{"\"a\\n\n b\"", 0, "a\n b", false}, {"\"\\n\"", 0, "\n", true}, {"\"a\n\\n\nb\"", -1, "a \n b", false}, {"\"a\\n\n\n\\nb\"", -1, "a\n\n\nb", false}, {"\"a\\n\\\n\\nb\"", -1, "a\n\nb", false}, {"\"a\\x0a\n b\"", 0, "a\n b", false}, {"\"a \\n\n b\"", 0, "a \n b", false}, {"\"\\n\\\n\n\\\n\"", -1, "\n\n", false}, // line feeds by them
	{"'a\n # b'", 0, "a # b", false}, {"\"a\n#b\n # c\"", -1, "a #b # c", false}, {"'#\n#'", -1, "# #", false}, {"'a: b\n - c: d'", 0, "a: b - c: d", false}, {"'a\n\"'", -1, "a \"", false}, {"'a\n ---'", 0, "a ---", false}, {"'a\n---'", -1, "a ---", false}, {"'a\n---b'", -1, "a ---b", false}, {"\"a\n...\"", -1, "a ...", false}, {"'a\n ... b'", 0, "a ... b", false}, {"'a\n--\n-\n....'", -1, "a -- - ....", false}, {"'a\n---''\n'", -1, "a ---' ", false}, {"\"a\n---\\ b\"", -1, "a --- b", false}, {"\"a\n...\\\n\"", -1, "a ...", false}, {"'a\n\t---'", -1, "a ---", false}, // rows that are comments and marks elsewhere
}

// 12.1, 12.2: the text, where it ends, and whether it is in one row, written out; also within a text, in any row.
func TestRead(t *testing.T) {
	for _, c := range scalars {
		for _, before := range []string{"", " ", "x: ", "--- ", "...", "[é, ", "\n", "\n\n  ", "# ", "'", "\"", "\\", "a\n\t"} {
			for _, behind := range []string{"", " ", "\n", "\n\n", ": b", "#", ", c]", "\nb", "\n---\n", "a", "\\", "\t", "\xff", "\"", " '", "\n''"} {
				s, want := before+c.s+behind, answer{c.text, len(before) + len(c.s), c.one, api.OK}
				if got := read(s, len(before), c.n); got != want {
					t.Errorf("Read(%q, %d, %d) = %+v, want %+v", s, len(before), c.n, got, want)
				}
			}
		}
		check(t, c.s)
		checkAt(t, c.s, 0, c.n)
	}
	if got, want := read("\"a\"''", 0, 0), (answer{"a", 3, true, api.OK}); got != want {
		t.Errorf("Read of \"a\" ahead of '' = %+v, want %+v", got, want)
	}
}

// errForm are texts at whose beginning no scalar can be read within a collection of the column n: where what is wrong stands.
var errForm = []struct {
	s     string
	n, to int
}{
	{"", 0, 0}, {"a", 0, 0}, {" 'a'", 0, 0}, {"\n'a'", 0, 0}, {"\\'a'", 0, 0}, {"`a`", 0, 0}, {"‘a’", 0, 0}, {"\ufeff'a'", 0, 0}, {"\u0127a\u0127", 0, 0}, {"\u0122a\u0122", 0, 0}, {"&a 'b'", 0, 0}, {"\xff", 0, 0}, {"\x00", 0, 0}, // neither ' nor "
	{"'", 0, 1}, {"\"", 0, 1}, {"'a", 0, 2}, {"\"a", 0, 2}, {"'''", 0, 3}, {"'a''", 0, 4}, {"'''''", 0, 5}, {"\"\\\"", 0, 3}, {"\"a\\\\\\\"", 0, 6}, {"'\"", 0, 2}, {"\"'", 0, 2}, {"'a ", 0, 3}, {"'a\n", 0, 3}, {"'a\n\n", 5, 4}, {"'a\n  ", 5, 5}, {"\"a\n \t\n ", 5, 7}, {"\"a\\\n", -1, 4}, {"\"a\\\n\n", 3, 5}, {"\"a\n\\\n", -1, 5}, {"'a\n b", 0, 5}, {"'a\n b\n", 0, 6}, {"'é", 0, 3}, {"'\xff", 0, 2}, {"\"\\x41", 0, 5}, {"'a\n ''", 0, 6}, {"'\u0127", 0, 3}, {"\"\u0122", 0, 3}, // no end
	{"\"\\", 0, 1}, {"\"a\\", 0, 2}, {"\"\\z\"", 0, 1}, {"\"\\A\"", 0, 1}, {"\"\\'\"", 0, 1}, {"\"\\x4\"", 0, 1}, {"\"\\x4g\"", 0, 1}, {"\"\\x\"", 0, 1}, {"\"\\u123\"", 0, 1}, {"\"\\U0001f60\"", 0, 1}, {"\"\\ud800\"", 0, 1}, {"\"\\uDFFF\"", 0, 1}, {"\"\\U00110000\"", 0, 1}, {"\"\\Uffffffff\"", 0, 1}, {"\"\\r\\\r\"", 0, 3}, {"\"\\é\"", 0, 1}, {"\"\\\xff\"", 0, 1}, {"\"a\\x4\n1\"", -1, 2}, {"\"\\t\\q", 0, 3}, {"\"a\n \\z\"", 0, 4}, {"\"a\n\\z\"", -1, 3}, {"\"a\\\n \\z\"", 0, 5}, {"\"a\\\\\\q\"", 0, 4}, {"\"\\z", 0, 1}, {"\"\\\u010a\"", 0, 1}, {"\"é\\z\"", 0, 3}, {"\"\\\u0122", 0, 1}, // no escape sequence
	{"'a\n--- b'", -1, 3}, {"'a\n---\nb'", -1, 3}, {"'a\n---\tb'", -1, 3}, {"\"a\n...\n\"", -1, 3}, {"'a\n... '", -1, 3}, {"'a\n...", -1, 3}, {"'a\n---", -5, 3}, {"'a\n\n--- '", -1, 4}, {"\"a\\\n--- \"", -1, 4}, {"\"a\\\n...\n\"", -1, 4}, {"'\n--- '", -1, 2}, {"'a\n--- b'", 0, 3}, {"\"a\n--- \\z\"", -1, 3}, {"'a\n b\n...\tc'", -1, 6}, {"'a\n--- ", math.MinInt, 3}, // rows that are marks
	{"'a\nb'", 0, 3}, {"'a\n b'", 1, 4}, {"'a\n b'", 5, 4}, {"'a\n\tb'", 0, 4}, {"'a\n \tb'", 1, 5}, {"'a\n\t   b'", 0, 7}, {"\"a\n\t\"", 0, 4}, {"'a\n'", 0, 3}, {"'a\n '", 1, 4}, {"'a\n b\nc'", 0, 6}, {"'a\n b\n\n  c'", 2, 4}, {"'a\n\nb'", 0, 4}, {"'a\n     \n b'", 1, 10}, {"\"a\\\nb\"", 0, 4}, {"\"a\\\n\\\n\"", 0, 4}, {"\"a\n\\z\"", 0, 3}, {"'a\n# b'", 0, 3}, {"'a\n #b\n c'", 1, 4}, {"'a\n---b'", 0, 3}, {"'a\n---'", 0, 3}, {"'a\nb", 0, 3}, {"'a\n''", 0, 3}, {"'\nb'", 0, 2}, {"'a\n b'", math.MaxInt, 4}, {"'a\n\u00a0b'", 0, 3}, // rows that are not far enough in
	{"\"\\z\nb\"", 0, 1}, {"\"a\nb\\z\"", 0, 3}, {"\"a\n b\\z\nc\"", 0, 5}, {"\"a\nb\n\\z\"", 0, 3}, {"'a\nb\n--- '", 0, 3}, {"'a\n--- \nb'", 0, 3}, {"\"a\n b\n--- \\z\"", 0, 6}, {"\"a\n b\\\n\\z\"", 0, 7}, // of several, the first from the left
}

// 12.1, 12.3: what is wrong, and where; there is nothing beside the code and the offset.
func TestReadErrForm(t *testing.T) {
	for _, c := range errForm {
		for _, before := range []string{"", " ", "x: ", "é\n", "'", "\"", "--- ", "\\", "'\n"} {
			if got, want := read(before+c.s, len(before), c.n), (answer{to: len(before) + c.to, e: api.ErrForm}); got != want {
				t.Errorf("Read(%q, %d, %d) = %+v, want %+v", before+c.s, len(before), c.n, got, want)
			}
		}
		check(t, c.s)
		checkAt(t, c.s, 0, c.n)
	}
	for _, s := range []string{"", "'", "\"", "''", "'a'", "\"a\nb\""} {
		for _, at := range []int{-1, -2, len(s), len(s) + 1, len(s) + 7, math.MinInt, math.MaxInt} {
			for _, n := range []int{-1, 0, 3, math.MinInt, math.MaxInt} {
				if got, want := read(s, at, n), (answer{to: at, e: api.ErrForm}); got != want {
					t.Errorf("Read(%q, %d, %d) = %+v, want %+v", s, at, n, got, want)
				}
			}
		}
	}
}

// 12.1 to 12.3, 12.5: every text of one and of two bytes, alone, and where the rows of a scalar begin and end.
func TestEveryPairOfBytes(t *testing.T) {
	for a := range 0x100 {
		check(t, string([]byte{byte(a)}))
		for b := range 0x100 {
			pair := string([]byte{byte(a), byte(b)})
			checkAt(t, pair, 0, 0)
			checkAt(t, pair, 1, 0)
			for _, quote := range []string{"'", "\""} {
				checkAt(t, quote+pair, 0, 0)
				checkAt(t, quote+pair+quote, 0, 0)
				checkAt(t, quote+"a "+pair+" b"+quote, 0, 0)
				checkAt(t, quote+"a"+pair+"\n b"+quote, 0, 0)
				checkAt(t, quote+"a\n"+pair+"b"+quote, 0, -1, 0)
				checkAt(t, quote+"a\n\n "+pair+"\n"+quote, 0, -1)
				checkAt(t, quote+pair+"\\\n"+quote, 0, -1)
				checkAt(t, quote+"\\"+pair+quote, 0, 0)
			}
		}
	}
}

// 12.1 to 12.3, 12.5: every text of up to so many of those parts of which scalars are made.
func TestEveryText(t *testing.T) {
	for _, quote := range []string{"'", "\""} {
		use := func(columns ...int) func(string) {
			return func(s string) {
				checkAt(t, quote+s, 0, columns...)
				checkAt(t, quote+s+quote, 0, columns...)
			}
		}
		every([]string{"a", " ", "\n"}, 8, use(-1, 0))
		every([]string{"a", " ", "\n", "\\"}, 6, use(-1, 0))
		every([]string{"a", " ", "\t", "\n", "\\", quote, "#"}, 5, use(-1, 0))
		every([]string{"a", "\n ", "\n  ", "\n\t", "\n\n", "\\\n", "\\\n ", "\\ ", "\\n"}, 4, use(-1, 0, 1, 2))
		every([]string{"a", " ", "\n", "\\\n", "\\ ", " \\\n"}, 5, use(-1, 0))
		every([]string{"a", " ", "\n", "---", "...", "\\", "--- ", "\n...", "\t"}, 4, use(-1, 0))
		every([]string{"a", " ", "\t", "\n", "\\", "'", "\"", "\\\"", "''", "x20", "u000a", "U0001f600", "n", "t", "0", "#", ": ", ",", "]", "é", "\xff", "\r", "\u0120", "\u010a", "\u0127"}, 3, use(-1, 0))
	}
	every([]string{"a", " ", "\n", "\\", "'", "\""}, 6, func(s string) { check(t, s) })
}

// 12.1 to 12.3, 12.5: every byte, and runes whose last byte could stand there, ahead of, within and behind each of the samples, and in the place of each of their bytes; and each sample cut, and without one of its bytes.
func TestEveryByte(t *testing.T) {
	var others []string
	for i := range 0x100 {
		others = append(others, string([]byte{byte(i)}), string(rune(0x100+i)))
	}
	use := func(s string, n int) {
		for at := range len(s) + 1 {
			behind := s[min(at+1, len(s)):]
			checkAt(t, s[:at], 0, n)
			checkAt(t, s[:at]+behind, 0, n)
			checkAt(t, s, at, n)
			for _, o := range others {
				checkAt(t, s[:at]+o+s[at:], 0, n)
				checkAt(t, s[:at]+o+behind, 0, n)
			}
		}
	}
	for _, c := range scalars {
		use(c.s, c.n)
	}
	for _, c := range errForm {
		use(c.s, c.n)
	}
}

// 12.1: every escape sequence of a letter, and every byte in its place; every number of two digits and many of four and eight, in small and great ones: the code point is that of esca.Read, and so is the error.
func TestEscapeSequences(t *testing.T) {
	use := func(sequence string) {
		r, to, e := esca.Read(sequence, 0)
		for _, c := range []struct{ before, behind, first, last string }{{"\"", "\"", "", ""}, {"\"a ", " b\"", "a ", " b"}, {"\"a\n ", " \n b\"", "a ", " b"}, {"\" \\\n ", " \\\n \"", " ", " "}} {
			s := c.before + sequence + c.behind
			want := answer{to: len(c.before), e: e}
			if e == api.OK {
				want = answer{c.first + string(r) + sequence[to:] + c.last, len(s), !strings.Contains(s, "\n"), api.OK}
			}
			if got := read(s, 0, 0); got != want {
				t.Fatalf("Read(%q, 0, 0) = %+v, want %+v", s, got, want)
			}
		}
	}
	for i := range 0x100 {
		switch c := string([]byte{byte(i)}); c {
		case "\n", "x", "u", "U": // what a \ ahead of an LF does, and a number whose digits stand behind it, is told elsewhere
		default:
			use("\\" + c)
		}
		hex := strconv.FormatInt(0x100+int64(i), 16)[1:]
		use("\\x" + hex)
		use("\\x" + strings.ToUpper(hex))
		use("\\x" + hex + hex)
	}
	for _, n := range []int64{0, 9, 0xa, 0x20, 0x22, 0x27, 0x5c, 0x7f, 0x80, 0x85, 0xa0, 0xff, 0x100, 0x7ff, 0x800, 0x2028, 0xd7ff, 0xd800, 0xdbff, 0xdc00, 0xdfff, 0xe000, 0xfeff, 0xfffd, 0xffff, 0x10000, 0x1f600, 0x10ffff, 0x110000, 0x7fffffff, 0x80000000, 0xffffffff} {
		hex := strconv.FormatInt(1<<32+n, 16)[1:]
		use("\\U" + hex)
		use("\\U" + strings.ToUpper(hex))
		use("\\u" + hex[4:])
		use("\\u" + strings.ToUpper(hex[4:]))
	}
}

// 12.3, 12.5: columns that are far out.
func TestFarColumns(t *testing.T) {
	columns := []int{math.MinInt, math.MinInt + 1, math.MinInt32, -2, 2, 3, 4, 5, math.MaxInt32, math.MaxInt - 1, math.MaxInt}
	for _, c := range scalars {
		checkAt(t, c.s, 0, columns...)
	}
	for _, c := range errForm {
		checkAt(t, c.s, 0, columns...)
	}
}

// 12.3: each row but the first is checked, whichever the wrong one is, and a blank one never is.
func TestEveryRow(t *testing.T) {
	for _, quote := range []string{"'", "\""} {
		for _, feed := range []string{"\n", "\n\n", "\n \t\n", "\\\n"} {
			for _, wrong := range []struct {
				row string
				at  int
			}{{"--- x", 0}, {"...", 0}, {" x", 1}, {"\tx", 1}, {"  \t# x", -1}, {"   x", -1}} {
				for count := range 6 {
					rows := strings.Repeat(feed+"   a", count)
					s := quote + "x" + rows + feed + wrong.row + feed + "   " + quote
					want := answer{to: 2 + len(rows) + len(feed) + wrong.at, e: api.ErrForm}
					got := read(s, 0, 1)
					if wrong.at >= 0 && got != want || wrong.at < 0 && (got.e != api.OK || got.to != len(s)) {
						t.Errorf("Read(%q, 0, 1) = %+v", s, got)
					}
					checkAt(t, s, 0, 1)
				}
			}
		}
	}
}

// 12.4 (W1): at every place of every text there is a scalar, or ErrForm at a place from there on, with nothing beside it.
func TestEitherOr(t *testing.T) {
	every([]string{"a", " ", "\n", "\\", "'", "\"", "\t"}, 6, func(s string) {
		for at := range len(s) + 1 {
			got := read(s, at, 0)
			fine := at+1 < got.to && got.to <= len(s) && s[got.to-1] == s[at] && got.one != strings.Contains(s[at:got.to], "\n")
			wrong := got.e == api.ErrForm && got.text == "" && !got.one && at <= got.to && got.to <= len(s)
			if got.e == api.OK && !fine || got.e != api.OK && !wrong {
				t.Fatalf("Read(%q, %d, 0) = %+v", s, at, got)
			}
		}
	})
}

// 12.4 (W2): what esca.Quote writes is read as the text that was written, in one row.
func TestReadsQuoted(t *testing.T) {
	every([]string{"a", " ", "\t", "\n", "'", "\"", "\\", "#", "é", "\x00", "\u0085", "😀"}, 4, func(text string) {
		for _, one := range []bool{false, true} {
			s := esca.Quote(text, one)
			if got, want := read(s+": b", 0, 9), (answer{text, len(s), true, api.OK}); got != want {
				t.Fatalf("Read(%q, 0, 9) = %+v, want %+v", s+": b", got, want)
			}
		}
	})
}

// 12.4 (W2): every text can be written in double quotes with a row for each of its runes, and with its line feeds and blanks as the ends of rows; and in single quotes, if no White stands where a row begins or ends. Each is read as that text.
func TestReadsRows(t *testing.T) {
	guard := func(s string) string { // White where a row begins or ends, by escape sequences
		for _, white := range []string{" ", "\t"} {
			sequence := map[string]string{" ": "\\x20", "\t": "\\t"}[white]
			s = strings.ReplaceAll(strings.ReplaceAll(s, white+"\n", sequence+"\n"), "\n"+white, "\n"+sequence)
		}
		return s
	}
	written := func(text string) []string {
		var runes []string
		for _, r := range text {
			shown := esca.Show(r)
			if r == ' ' {
				shown = "\\ "
			}
			runes = append(runes, shown)
		}
		escaped := strings.NewReplacer("\\", "\\\\", "\"", "\\\"").Replace(text)
		all := []string{
			"\"" + strings.Join(runes, "\\\n") + "\"",
			"\"" + strings.Join(runes, "\\\n\\\n") + "\\\n\"",
			"\"" + feeds.ReplaceAllString(guard(escaped), "\n$0") + "\"",
			"\"" + strings.ReplaceAll(guard(escaped), "\n", "\\\n\n\\\n") + "\"",
		}
		if !strings.Contains(text, "\n") && !strings.Contains(text, "\t") && !strings.Contains(text, "  ") {
			all = append(all, "\""+strings.ReplaceAll(escaped, " ", "\n")+"\"", "'"+strings.ReplaceAll(strings.ReplaceAll(text, "'", "''"), " ", "\n")+"'")
		}
		if guard(text) == text {
			all = append(all, "'"+feeds.ReplaceAllString(strings.ReplaceAll(text, "'", "''"), "\n$0")+"'")
		}
		return all
	}
	every([]string{"a", " ", "\t", "\n", "'", "\"", "\\", "#", "é"}, 5, func(text string) {
		for _, s := range written(text) {
			for _, c := range []struct {
				indent string
				n      int
			}{{"", -1}, {" ", 0}, {"   \t ", 2}} {
				s := strings.ReplaceAll(s, "\n", "\n"+c.indent)
				if got, want := read(s, 0, c.n), (answer{text, len(s), !strings.Contains(s, "\n"), api.OK}); got != want {
					t.Fatalf("Read(%q, 0, %d) = %+v, want %+v", s, c.n, got, want)
				}
			}
		}
	})
}

// 12.1 to 12.3, 12.5: long rows, and many of them, end.
func TestLong(t *testing.T) {
	const n = 1 << 20
	a, blanks, feeds := strings.Repeat("a", n), strings.Repeat(" ", n), strings.Repeat("\n", n)
	for _, c := range []struct {
		name, s string
		n       int
		want    answer
	}{
		{"a long row", "'" + a + "' b", 0, answer{a, n + 2, true, 0}},
		{"many quotes", "'" + strings.Repeat("''", n) + "'", 0, answer{strings.Repeat("'", n), 2*n + 2, true, 0}},
		{"many quotes without an end", "'" + strings.Repeat("''", n), 0, answer{to: 2*n + 1, e: api.ErrForm}},
		{"many escape sequences", "\"" + strings.Repeat("\\x41", n) + "\"", 0, answer{strings.Repeat("A", n), 4*n + 2, true, 0}},
		{"many \\", "\"" + strings.Repeat("\\\\", n) + "\"", 0, answer{strings.Repeat("\\", n), 2*n + 2, true, 0}},
		{"many runes", "\"" + strings.Repeat("é\xff", n) + "\"", 0, answer{strings.Repeat("é\xff", n), 3*n + 2, true, 0}},
		{"White", "'" + blanks + "\n" + blanks + "'", 0, answer{" ", 2*n + 3, false, 0}},
		{"many rows", "'" + strings.Repeat("a\n", n) + "'", -1, answer{strings.Repeat("a ", n), 2*n + 2, false, 0}},
		{"many rows without an end", "'" + strings.Repeat("a\n", n), -1, answer{to: 2*n + 1, e: api.ErrForm}},
		{"many rows and a mark", "'" + strings.Repeat("a\n", n) + "--- '", -1, answer{to: 2*n + 1, e: api.ErrForm}},
		{"many blank rows", "\"a" + feeds + " b\"", 0, answer{"a" + feeds[1:] + "b", n + 5, false, 0}},
		{"many blank rows behind a \\", "\"a\\" + feeds + " b\"", 0, answer{"a" + feeds[1:] + "b", n + 6, false, 0}},
		{"many rows ended by a \\", "\"" + strings.Repeat("a\\\n", n) + "\"", -1, answer{a, 3*n + 2, false, 0}},
		{"many empty rows ended by a \\", "\"" + strings.Repeat("\\\n", n) + "\"", -1, answer{"", 2*n + 2, false, 0}},
		{"rows of White", "'a" + strings.Repeat("\n \t", n) + "\n b'", 0, answer{"a" + feeds + "b", 3*n + 6, false, 0}},
		{"far in", "'a\n" + blanks + "b'", n - 1, answer{"a b", n + 5, false, 0}},
		{"not far enough in", "'a\n" + blanks + "b'", n, answer{to: n + 3, e: api.ErrForm}},
	} {
		if got := read(c.s, 0, c.n); got != c.want {
			t.Errorf("%s: %d bytes, %d, %v, %d, want %d, %d, %v, %d", c.name, len(got.text), got.to, got.one, got.e, len(c.want.text), c.want.to, c.want.one, c.want.e)
		}
	}
}

// 12.1: the text has memory of its own, which it shares with no argument.
func TestOwnMemory(t *testing.T) {
	for _, c := range scalars {
		s := strings.Clone(c.s)
		if got := read(s, 0, c.n); shares(got.text, s) {
			t.Errorf("Read(%q, 0, %d) = %q, which is a piece of its argument", s, c.n, got.text)
		}
	}
}

// shares reports whether s begins within the memory of t.
func shares(s, t string) bool {
	at, from := uintptr(unsafe.Pointer(unsafe.StringData(s))), uintptr(unsafe.Pointer(unsafe.StringData(t)))
	return s != "" && from <= at && at < from+uintptr(len(t))
}
