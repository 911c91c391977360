package note_test

import (
	"math"
	"regexp"
	"slices"
	"strings"
	"testing"
	"unsafe"

	"bosket/api"
	"bosket/note"
)

// The chapter's words for what stands in a row, and for what is skipped of one: White, and a comment without the White at its end. Behind anything else a comment needs White ahead of it.
var (
	skipped = regexp.MustCompile(`\A([ \t]*)(?:#([^\n]*?)[ \t]*)?\z`)
	behind  = regexp.MustCompile(`\A(?:([ \t]+)(?:#([^\n]*?)[ \t]*)?)?\z`)
	white   = regexp.MustCompile(`\A[ \t]*`)
	blanks  = regexp.MustCompile(`\A *`)
	marked  = regexp.MustCompile(`\A(?:---|\.\.\.)(?:[ \t]|\z)`)
	texty   = regexp.MustCompile(`\A[ \t]*[^ \t#]`)
)

// answer is what both calls answer.
type answer struct {
	notes []api.Comment
	near  bool
	to    int
	code  api.Errno
}

func skip(s string, at int) answer {
	notes, near, to, code := note.Skip(s, at)
	return answer{notes, near, to, code}
}

func within(s string, at, n int) answer {
	notes, near, to, code := note.Within(s, at, n)
	return answer{notes, near, to, code}
}

func same(a, b answer) bool {
	return slices.Equal(a.notes, b.notes) && a.near == b.near && a.to == b.to && a.code == b.code
}

// row is one of a text, and where it begins.
type row struct {
	from int
	text string
}

// split returns the rows of s.
func split(s string) (all []row) {
	from := 0
	for text := range strings.SplitSeq(s, "\n") {
		all = append(all, row{from, text})
		from += len(text) + 1
	}
	return all
}

// above works out how many blank rows stand directly above the #, which is so far behind the beginning of its row.
func above(all []row, i, col int) (n int) {
	if white.FindString(all[i].text[:col]) != all[i].text[:col] {
		return 0
	}
	for i--; i >= 0 && white.FindString(all[i].text) == all[i].text; i-- {
		n++
	}
	return n
}

// wanted is what the chapter's words ask for at one place in a text: its rows, and what is skipped of them.
type wanted struct {
	at   int
	all  []row
	pass answer
}

// want works out what is skipped: each row from at on either is skipped whole, or ends that behind its White.
func want(s string, at int) wanted {
	w := wanted{at: min(max(at, 0), len(s)), all: split(s)}
	for i, r := range w.all {
		end := r.from + len(r.text)
		if end < w.at {
			continue
		}
		from, form := r.from, skipped
		if from < w.at {
			from = w.at
			if s[from-1] != ' ' && s[from-1] != '\t' {
				form = behind
			}
		}
		rest := s[from:end]
		found := form.FindStringSubmatchIndex(rest)
		if found == nil {
			w.pass.to = from + len(white.FindString(rest))
			return w
		}
		if found[4] >= 0 { // the text of a comment
			hash := from + found[4] - 1
			w.pass.near = w.pass.near || r.from < w.at
			w.pass.notes = append(w.pass.notes, api.Comment{Text: rest[found[4]:found[5]], Blank: above(w.all, i, hash-r.from)})
		}
	}
	w.pass.to = len(s)
	return w
}

func (w wanted) skip() answer {
	for _, r := range w.all {
		inside := r.from <= w.pass.to && w.pass.to <= r.from+len(r.text)
		tab := strings.Index(white.FindString(r.text), "\t")
		if inside && w.at <= r.from && tab >= 0 && texty.MatchString(r.text) && !marked.MatchString(r.text) {
			return answer{to: r.from + tab, code: api.ErrTab}
		}
	}
	return w.pass
}

func (w wanted) within(n int) answer {
	for _, r := range w.all {
		switch {
		case r.from <= w.at || r.from > w.pass.to:
		case marked.MatchString(r.text):
			return answer{to: r.from, code: api.ErrForm}
		case len(blanks.FindString(r.text)) <= n && texty.MatchString(r.text):
			return answer{to: r.from + len(white.FindString(r.text)), code: api.ErrForm}
		}
	}
	return w.pass
}

// checkAt holds both calls against the chapter's words at one place in s.
func checkAt(t *testing.T, s string, at int) {
	t.Helper()
	w := want(s, at)
	if got, want := skip(s, at), w.skip(); !same(got, want) {
		t.Fatalf("Skip(%q, %d) = %v, want %v", s, at, got, want)
	}
	for n := -2; n <= 4; n++ {
		if got, want := within(s, at, n), w.within(n); !same(got, want) {
			t.Fatalf("Within(%q, %d, %d) = %v, want %v", s, at, n, got, want)
		}
	}
}

// check holds both calls against the chapter's words at every place in s, and right outside of it.
func check(t *testing.T, s string) {
	t.Helper()
	for at := -1; at <= len(s)+1; at++ {
		checkAt(t, s, at)
	}
}

// every calls use with all texts of at most most of these parts.
func every(parts []string, most int, use func(string)) {
	var longer func(string, int)
	longer = func(s string, n int) {
		use(s)
		if n == most {
			return
		}
		for _, p := range parts {
			longer(s+p, n+1)
		}
	}
	longer("", 0)
}

func of(notes ...api.Comment) []api.Comment { return notes }

func c(text string) api.Comment { return api.Comment{Text: text} }

func b(blank int, text string) api.Comment { return api.Comment{Text: text, Blank: blank} }

// both are texts that Skip and Within (in brackets of no block collection) answer alike.
var both = []struct {
	s     string
	at    int
	notes []api.Comment
	near  bool
	to    int
}{
	// the chapter's example
	{" # a \n\n# b\nx", 0, of(c(" a"), b(1, " b")), false, 11},
	// nothing to skip
	{"", 0, nil, false, 0}, {"x", 0, nil, false, 0}, {"x", 1, nil, false, 1}, {"xy", 1, nil, false, 1}, {"-", 0, nil, false, 0}, {"\xff", 0, nil, false, 0}, {"é", 0, nil, false, 0}, {"é", 1, nil, false, 1}, {"\x00", 0, nil, false, 0}, {"%", 0, nil, false, 0},
	// White and line feeds
	{" ", 0, nil, false, 1}, {"\t", 0, nil, false, 1}, {"\n", 0, nil, false, 1}, {" x", 0, nil, false, 1}, {"x y", 1, nil, false, 2}, {"x\ty", 1, nil, false, 2}, {"x \t y", 1, nil, false, 4}, {"x\ny", 1, nil, false, 2}, {"x \n\t\n y", 1, nil, false, 6}, {"\n\n\nx", 0, nil, false, 3}, {"\n\n\nx", 2, nil, false, 3}, {"x\n", 1, nil, false, 2}, {"x\n\t", 1, nil, false, 3}, {"x\n \t\n", 2, nil, false, 5}, {"x\n\n  ", 3, nil, false, 5}, {"  \t \t", 0, nil, false, 5},
	// what is no White
	{"\rx", 0, nil, false, 0}, {" \r\n", 0, nil, false, 1}, {"\u00a0", 0, nil, false, 0}, {" \u00a0", 0, nil, false, 1}, {"\v", 0, nil, false, 0}, {" \f", 0, nil, false, 1}, {"\u2028", 0, nil, false, 0}, {"\u0085", 0, nil, false, 0}, {"\u0120", 0, nil, false, 0}, {"\u010a", 0, nil, false, 0}, {"\ufeff", 0, nil, false, 0},
	// a comment at the beginning of s, or of a row
	{"#", 0, of(c("")), false, 1}, {"# a", 0, of(c(" a")), false, 3}, {"#a\nx", 0, of(c("a")), false, 3}, {"\n#a", 0, of(b(1, "a")), false, 3}, {"x\n#a", 1, of(c("a")), false, 4}, {"x\n#a", 2, of(c("a")), false, 4}, {"x\n  #a", 1, of(c("a")), false, 6}, {"x\n\t#a\n y", 1, of(c("a")), false, 7}, {"\t#a", 0, of(c("a")), false, 3}, {" \t #a\n", 0, of(c("a")), false, 6}, {"---\n#a", 4, of(c("a")), false, 6},
	// one behind something else in its row
	{"x #a", 1, of(c("a")), true, 4}, {"x #a", 2, of(c("a")), true, 4}, {"x\t#a\n", 1, of(c("a")), true, 5}, {"x  #a\n\ny", 1, of(c("a")), true, 7}, {"x  #a", 2, of(c("a")), true, 5}, {"a # b\nc", 1, of(c(" b")), true, 6}, {"--- #a", 3, of(c("a")), true, 6}, {"... #a\n", 3, of(c("a")), true, 7}, {"-\t#a\n x", 1, of(c("a")), true, 6}, {"'a' #b", 3, of(c("b")), true, 6}, {"é #b", 2, of(c("b")), true, 5},
	// one in the row of at, with White alone ahead
	{" #a", 1, of(c("a")), true, 3}, {"\n\n  #a", 3, of(b(2, "a")), true, 6}, {"\n\n  #a", 4, of(b(2, "a")), true, 6}, {"\n\n  #a", 2, of(b(2, "a")), false, 6}, {"x\n #a\n", 3, of(c("a")), true, 6}, {"\t#a", 1, of(c("a")), true, 3},
	// a # that begins none
	{"a#b", 1, nil, false, 1}, {"##", 1, nil, false, 1}, {"x#", 1, nil, false, 1}, {"]#a\n", 1, nil, false, 1}, {"\"#\n#a", 1, nil, false, 1}, {"é#a", 2, nil, false, 2}, {"\r#a", 1, nil, false, 1}, {"\u00a0#a", 2, nil, false, 2}, {"\v#", 1, nil, false, 1}, {"x#a #b", 1, nil, false, 1}, {"\u0120#", 2, nil, false, 2}, {"\x00#", 1, nil, false, 1},
	// within a comment
	{"#ab", 1, nil, false, 1}, {"#a #b", 2, of(c("b")), true, 5}, {"# #a", 1, of(c("a")), true, 4}, {"# #a", 2, of(c("a")), true, 4}, {"x # a", 4, nil, false, 4}, {"#a\n#b", 2, of(c("b")), false, 5}, {"#a ", 2, nil, false, 3},
	// what a comment has
	{"##", 0, of(c("#")), false, 2}, {"# a # b", 0, of(c(" a # b")), false, 7}, {"#  a", 0, of(c("  a")), false, 4}, {"#\ta", 0, of(c("\ta")), false, 3}, {"#a  ", 0, of(c("a")), false, 4}, {"#a\t \t\nx", 0, of(c("a")), false, 6}, {"# \t", 0, of(c("")), false, 3}, {"#\n#", 0, of(c(""), c("")), false, 3}, {"#a b\tc d", 0, of(c("a b\tc d")), false, 8}, {"#a\r", 0, of(c("a\r")), false, 3}, {"#a\r ", 0, of(c("a\r")), false, 4}, {"#a\u00a0", 0, of(c("a\u00a0")), false, 4}, {"#a\v", 0, of(c("a\v")), false, 3}, {"#é", 0, of(c("é")), false, 3}, {"#\xff \n", 0, of(c("\xff")), false, 4}, {"#\x00", 0, of(c("\x00")), false, 2}, {"#a\u0120", 0, of(c("a\u0120")), false, 4}, {"#---", 0, of(c("---")), false, 4}, {"#a\u2028b", 0, of(c("a\u2028b")), false, 6}, {"#\u0109", 0, of(c("\u0109")), false, 3}, {"#\ufeff", 0, of(c("\ufeff")), false, 4},
	// several, and the blank rows above them
	{"#a\n#b", 0, of(c("a"), c("b")), false, 5}, {"#a\n\n \n#b\n", 0, of(c("a"), b(2, "b")), false, 9}, {"x #a\n\n\t\n\n#b\n#c\n\n #d\n\n", 1, of(c("a"), b(3, "b"), c("c"), b(1, "d")), true, 21}, {"\n\n#a", 0, of(b(2, "a")), false, 4}, {"\n\n#a", 1, of(b(2, "a")), false, 4}, {"\n\n#a", 2, of(b(2, "a")), false, 4}, {"x\n\n\n#a", 1, of(b(2, "a")), false, 6}, {"x\n\n\n#a", 4, of(b(2, "a")), false, 6}, {"x\n\n\ny #a", 5, of(c("a")), true, 8}, {"x\n\n- #a", 4, of(c("a")), true, 7}, {"x # a\n # b\n y", 2, of(c(" a"), c(" b")), true, 12}, {"x\n#a\n#b", 1, of(c("a"), c("b")), false, 7}, {"x#\n#b", 2, of(c("b")), false, 5}, {" #a\n #b", 1, of(c("a"), c("b")), true, 7}, {"--- #a\n\n#b", 3, of(c("a"), b(1, "b")), true, 10},
	// at within a row that is --- or ..., or at its beginning
	{"--- x", 0, nil, false, 0}, {"---", 0, nil, false, 0}, {"... ", 0, nil, false, 0}, {"...\n", 0, nil, false, 0}, {"--- x", 3, nil, false, 4}, {"---\tx", 3, nil, false, 4}, {"---\n x", 3, nil, false, 5}, {"... #a\n", 4, of(c("a")), true, 7}, {"--- x", 1, nil, false, 1}, {"a\n---\n", 2, nil, false, 2}, {"a\n...", 2, nil, false, 2}, {"---  ", 3, nil, false, 5}, {"\n--- x", 1, nil, false, 1},
	// what is like one
	{"\n----", 0, nil, false, 1}, {"\n---x", 0, nil, false, 1}, {"\n ---", 0, nil, false, 2}, {"\n--", 0, nil, false, 1}, {"\n....", 0, nil, false, 1}, {"\n ...\n", 0, nil, false, 2}, {"\n.. .", 0, nil, false, 1}, {"\n---\u00a0", 0, nil, false, 1}, {"\n---#", 0, nil, false, 1}, {"\n-- -", 0, nil, false, 1}, {"\n--.", 0, nil, false, 1}, {"\n___", 0, nil, false, 1},
	// tabs that do not stand at the beginning of a row with text that is reached
	{"x\t\ty", 1, nil, false, 3}, {" \tx", 1, nil, false, 2}, {" \tx", 2, nil, false, 2}, {"\tx", 1, nil, false, 1}, {"\t\tx", 1, nil, false, 2}, {"\n\tx", 2, nil, false, 2}, {"x\n\t\n\ty", 5, nil, false, 5}, {"x\n\t\ty", 3, nil, false, 4}, {"\t\n x", 0, nil, false, 3}, {"#\t\n x", 0, of(c("")), false, 4}, {"\t#\tb\n x", 0, of(c("\tb")), false, 6}, {"\t#a", 0, of(c("a")), false, 3}, {"\t\n\t", 0, nil, false, 3}, {"\t", 0, nil, false, 1}, {"x\n\t", 1, nil, false, 3}, {"x\n\t#\ta", 1, of(c("\ta")), false, 6}, {" x\ty", 0, nil, false, 1}, {"x\n y\t", 1, nil, false, 3}, {"---\t#a\n", 3, of(c("a")), true, 7}, {"\t##a", 2, nil, false, 2}, {"\n\n\t\n #\ta", 0, of(b(3, "\ta")), false, 8},
	// at outside of s
	{"# a", -5, of(c(" a")), false, 3}, {" x", -1, nil, false, 1}, {"x", 9, nil, false, 1}, {"# a\n b", 99, nil, false, 6}, {"#a\n", 4, nil, false, 3}, {"--- x", -1, nil, false, 0},
}

// tabs are texts with a tab where blanks must stand, and where it stands; Within skips it.
var tabs = []struct {
	s     string
	at    int
	wrong int
	notes []api.Comment
	near  bool
	to    int
}{
	// the chapter's example
	{"\n\tx", 0, 1, nil, false, 2},
	{"\tx", 0, 0, nil, false, 1}, {"\tx", -7, 0, nil, false, 1}, {" \tx", 0, 1, nil, false, 2}, {"  \t\t x", 0, 2, nil, false, 5}, {"\t x", 0, 0, nil, false, 2}, {"\t\tx\ty", 0, 0, nil, false, 2}, {"x\n\ty", 1, 2, nil, false, 3}, {"x\n\ty", 2, 2, nil, false, 3}, {"x\n \t y", 1, 3, nil, false, 5}, {"x \t\n\ty", 1, 4, nil, false, 5}, {"x\t\n\t\n\t\ty", 1, 5, nil, false, 7}, {"x\n\t\n \ty", 3, 5, nil, false, 6},
	{"\t---", 0, 0, nil, false, 1}, {" \t...", 0, 1, nil, false, 2}, {"x\n\t--- y", 1, 2, nil, false, 3}, {"\t\xff", 0, 0, nil, false, 1}, {"\té", 0, 0, nil, false, 1}, {"\t\r", 0, 0, nil, false, 1}, {"\t\u00a0", 0, 0, nil, false, 1}, {"\t'", 0, 0, nil, false, 1}, {"\t-#", 0, 0, nil, false, 1}, {" \tx #a", 0, 1, nil, false, 2}, {"\t\x00", 0, 0, nil, false, 1},
	// behind comments, none of which is answered
	{"#\n\tx", 0, 2, of(c("")), false, 3}, {"# a\n\t\tx", 0, 4, of(c(" a")), false, 6}, {"x #a\n\n#b\n \ty", 1, 10, of(c("a"), b(1, "b")), true, 11}, {"\t#\ta\n\tx", 0, 5, of(c("\ta")), false, 6}, {"x\t#a\n  \ty", 1, 7, of(c("a")), true, 8}, {"#\t\n \n\n\tx", 0, 6, of(c("")), false, 7},
}

// refused are texts with a row that may not stand within brackets in a block collection of column n, and where it is wrong; Skip answers what it would have answered.
var refused = []struct {
	s     string
	at, n int
	wrong int
	skips answer
}{
	// --- and ...
	{"\n---", 0, -1, 1, answer{to: 1}}, {"\n...", 0, -1, 1, answer{to: 1}}, {"a\n---", 1, -1, 2, answer{to: 2}}, {"a\n... b", 1, -2, 2, answer{to: 2}}, {"a\n---\tb", 1, 4, 2, answer{to: 2}}, {"a \n\t\n---\n", 1, -1, 5, answer{to: 5}}, {"a\n...", 1, math.MinInt, 2, answer{to: 2}}, {"a\n--- #b", 1, -1, 2, answer{to: 2}}, {"---\n---", 0 + 3, -1, 4, answer{to: 4}}, {"\n\n---", 1, -1, 2, answer{to: 2}},
	{"a #b\n#c\n\n...", 1, -1, 9, answer{of(c("b"), c("c")), true, 9, api.OK}}, {"#\n---", 0, -1, 2, answer{of(c("")), false, 2, api.OK}},
	// not far enough in
	{"a\nb", 1, 0, 2, answer{to: 2}}, {"a\n b", 1, 1, 3, answer{to: 3}}, {"a\n  b", 1, 2, 4, answer{to: 4}}, {"a\n  b", 1, 3, 4, answer{to: 4}}, {"a\n  b", 1, math.MaxInt, 4, answer{to: 4}}, {"\nb", 0, 0, 1, answer{to: 1}}, {"a \n\n \n b", 1, 1, 7, answer{to: 7}}, {"a\n]", 1, 0, 2, answer{to: 2}}, {"a\n ----", 1, 1, 3, answer{to: 3}}, {"a\n----", 1, 0, 2, answer{to: 2}}, {"a\n...b", 1, 0, 2, answer{to: 2}}, {"a\n\xff", 1, 0, 2, answer{to: 2}}, {"a\n\u00a0 b", 1, 0, 2, answer{to: 2}}, {"a\n  \rb", 1, 2, 4, answer{to: 4}},
	{"a #b\n\n c", 1, 1, 7, answer{of(c("b")), true, 7, api.OK}}, {"a\n# x\nb", 1, 0, 6, answer{of(c(" x")), false, 6, api.OK}},
	// only blanks lead further in
	{"a\n\tb", 1, 0, 3, answer{to: 2, code: api.ErrTab}}, {"a\n\t b", 1, 0, 4, answer{to: 2, code: api.ErrTab}}, {"a\n\t  \tb", 1, 1, 6, answer{to: 2, code: api.ErrTab}}, {"a\n \tb", 1, 1, 4, answer{to: 3, code: api.ErrTab}}, {"a\n \t\tb", 1, 2, 5, answer{to: 3, code: api.ErrTab}}, {"a\n\t---", 1, 0, 3, answer{to: 2, code: api.ErrTab}},
}

// inside are texts that Within permits in a block collection of column n.
var inside = []struct {
	s     string
	at, n int
	want  answer
}{
	// the row of at is not looked at, also at its beginning
	{" b", 0, 5, answer{to: 1}}, {"b", 0, math.MaxInt, answer{}}, {"a b", 1, 9, answer{to: 2}}, {"\tb", 0, 9, answer{to: 1}}, {"a\n b", 2, 9, answer{to: 3}}, {"a\n  b", 3, 9, answer{to: 4}}, {"a\nb", 2, 0, answer{to: 2}}, {"a\n---", 2, 9, answer{to: 2}}, {"--- a", 3, 9, answer{to: 4}}, {"a\n  b", -9, 9, answer{}}, {"a\nb", 99, 9, answer{to: 3}}, {"---", -1, 9, answer{}},
	// far enough in
	{"a\n b", 1, 0, answer{to: 3}}, {"a\n  b", 1, 1, answer{to: 4}}, {"a\nb", 1, -1, answer{to: 2}}, {"a\nb", 1, math.MinInt, answer{to: 2}}, {"a\n---b", 1, -1, answer{to: 2}}, {"a\n ---", 1, 0, answer{to: 3}}, {"a\n \tb", 1, 0, answer{to: 4}}, {"a\n  \t b", 1, 1, answer{to: 6}}, {"a # c\n\n  b", 1, 1, answer{of(c(" c")), true, 9, api.OK}}, {"a\n#b\n c", 1, 0, answer{of(c("b")), false, 6, api.OK}}, {"a\n\tb", 1, -1, answer{to: 3}},
	// rows without text may stand anywhere
	{"a\n", 1, 9, answer{to: 2}}, {"a\n\n \n\t", 1, 9, answer{to: 6}}, {"a\n# x\n", 1, 9, answer{of(c(" x")), false, 6, api.OK}}, {"a\n#x\n\t\n\t#y", 1, math.MaxInt, answer{of(c("x"), b(1, "y")), false, 10, api.OK}}, {"a\n#x\n   b", 1, 2, answer{of(c("x")), false, 8, api.OK}},
}

// samples are all the texts above.
func samples() (all []string) {
	for _, c := range both {
		all = append(all, c.s)
	}
	for _, c := range tabs {
		all = append(all, c.s)
	}
	for _, c := range refused {
		all = append(all, c.s)
	}
	for _, c := range inside {
		all = append(all, c.s)
	}
	return all
}

// ahead are texts ahead of what is skipped.
var ahead = []string{"", "x", "#", "# ", " ", "\t", "\n", "x\n", "\n \n", "x \n\n", "#a\n", "---", "---\n", "é", "\xff"}

// 15.1, 15.2: comments, whether the first one is in the row of at, and the offset of what follows.
func TestBoth(t *testing.T) {
	for _, k := range both {
		want := answer{k.notes, k.near, k.to, api.OK}
		if got := skip(k.s, k.at); !same(got, want) {
			t.Errorf("Skip(%q, %d) = %v, want %v", k.s, k.at, got, want)
		}
		if got := within(k.s, k.at, -1); !same(got, want) {
			t.Errorf("Within(%q, %d, -1) = %v, want %v", k.s, k.at, got, want)
		}
	}
}

// 15.1: a row that is --- or ... ends what is skipped; 15.2: and may not begin behind at.
func TestMarks(t *testing.T) {
	for _, mark := range []string{"---", "..."} {
		for _, behind := range []string{"", "\n", " ", "\t", " x", "\n#b", " #b"} {
			for _, k := range []struct {
				s     string
				notes []api.Comment
			}{{"x\n", nil}, {"x \t\n\n", nil}, {"x\n#a\n", of(c("a"))}, {"\n\n#a\n#b\n\n", of(b(2, "a"), c("b"))}} {
				from := 0
				if k.s[0] == 'x' {
					from = 1
				}
				s, at := k.s+mark+behind, len(k.s)
				if got, want := skip(s, from), (answer{k.notes, false, at, api.OK}); !same(got, want) {
					t.Errorf("Skip(%q, %d) = %v, want %v", s, from, got, want)
				}
				if got, want := within(s, from, -1), (answer{nil, false, at, api.ErrForm}); !same(got, want) {
					t.Errorf("Within(%q, %d, -1) = %v, want %v", s, from, got, want)
				}
				for _, got := range []answer{skip(s, at), within(s, at, -1), within(s, at, 9)} {
					if want := (answer{nil, false, at, api.OK}); !same(got, want) {
						t.Errorf("at %d of %q: %v, want %v", at, s, got, want)
					}
				}
			}
		}
	}
}

// 15.1: the first tab at the beginning of the row that is reached, with nothing beside it; 15.2: tabs are permitted.
func TestTabs(t *testing.T) {
	for _, k := range tabs {
		if got, want := skip(k.s, k.at), (answer{nil, false, k.wrong, api.ErrTab}); !same(got, want) {
			t.Errorf("Skip(%q, %d) = %v, want %v", k.s, k.at, got, want)
		}
		if got, want := within(k.s, k.at, -1), (answer{k.notes, k.near, k.to, api.OK}); !same(got, want) {
			t.Errorf("Within(%q, %d, -1) = %v, want %v", k.s, k.at, got, want)
		}
	}
}

// 15.2: rows that may not stand within brackets, with nothing beside the code.
func TestWithinErrForm(t *testing.T) {
	for _, k := range refused {
		if got, want := within(k.s, k.at, k.n), (answer{nil, false, k.wrong, api.ErrForm}); !same(got, want) {
			t.Errorf("Within(%q, %d, %d) = %v, want %v", k.s, k.at, k.n, got, want)
		}
		if got := skip(k.s, k.at); !same(got, k.skips) {
			t.Errorf("Skip(%q, %d) = %v, want %v", k.s, k.at, got, k.skips)
		}
	}
}

// 15.2: rows that may.
func TestWithin(t *testing.T) {
	for _, k := range inside {
		if got := within(k.s, k.at, k.n); !same(got, k.want) {
			t.Errorf("Within(%q, %d, %d) = %v, want %v", k.s, k.at, k.n, got, k.want)
		}
	}
}

// 15.1, 15.2: the samples and the chapter's words agree, also behind other texts.
func TestSamples(t *testing.T) {
	for _, s := range samples() {
		for _, before := range ahead {
			check(t, before+s)
		}
	}
}

// 15.1, 15.2, 15.4: at is clamped to the places in s, and any column may be handed in.
func TestFarPlaces(t *testing.T) {
	for _, s := range samples() {
		for _, n := range []int{math.MinInt, math.MinInt + 1, math.MinInt32, -3, -1, 0, 1, math.MaxInt32, math.MaxInt - 1, math.MaxInt} {
			for _, at := range []int{math.MinInt, math.MinInt + 1, math.MinInt32, -len(s) - 1, -1} {
				if got, want := skip(s, at), want(s, 0).skip(); !same(got, want) {
					t.Errorf("Skip(%q, %d) = %v, want %v", s, at, got, want)
				}
				if got, want := within(s, at, n), want(s, 0).within(n); !same(got, want) {
					t.Errorf("Within(%q, %d, %d) = %v, want %v", s, at, n, got, want)
				}
			}
			for _, at := range []int{len(s), len(s) + 1, 2*len(s) + 1, math.MaxInt32, math.MaxInt - 1, math.MaxInt} {
				for _, got := range []answer{skip(s, at), within(s, at, n)} {
					if want := (answer{nil, false, len(s), api.OK}); !same(got, want) {
						t.Errorf("at %d of %q (%d): %v, want %v", at, s, n, got, want)
					}
				}
			}
			for at := range len(s) {
				if got, want := within(s, at, n), want(s, at).within(n); !same(got, want) {
					t.Errorf("Within(%q, %d, %d) = %v, want %v", s, at, n, got, want)
				}
			}
		}
	}
}

// 15.1, 15.2, 15.4: every text of up to so many parts of those between which tokens stand.
func TestEveryText(t *testing.T) {
	every([]string{" ", "\t", "\n", "#", "x"}, 6, func(s string) { check(t, s) })
	every([]string{" ", "\n", "#", "---"}, 6, func(s string) { check(t, s) })
	every([]string{"\n", "#a \n", "x", "  ", "\t"}, 6, func(s string) { checkAt(t, s, 0); checkAt(t, "x"+s, 1) })
	every([]string{"\n", "\n \n", "#\t", "\t#", "...", " x", "-"}, 4, func(s string) { check(t, s) })
	every([]string{" ", "  ", "\t", "\n", "\n\n", "#", "# a", "##", "---", "...", "--", ".", "x", "[", ",", "\r", "\v", "é", "\xff", "\x00", "\u00a0", "\u0120"}, 3, func(s string) { check(t, s) })
}

// 15.1, 15.2, 15.4: every text of one and of two bytes, alone and where rows, comments and texts begin and end.
func TestEveryPairOfBytes(t *testing.T) {
	for i := range 0x100 {
		check(t, string([]byte{byte(i)}))
		for j := range 0x100 {
			pair := string([]byte{byte(i), byte(j)})
			for _, k := range []struct{ before, after string }{{"", ""}, {"x", ""}, {"", "#a"}, {"x", "#a"}, {" ", "x"}, {"\n", "\tx"}, {"\n\t", ""}, {"\n", "---"}, {"\n--", ""}, {"\n---", ""}, {"#", ""}, {"#a", "\nx"}} {
				checkAt(t, k.before+pair+k.after, 0)
				checkAt(t, k.before+pair+k.after, min(len(k.before), 1))
			}
		}
	}
}

// 15.1, 15.2, 15.4: every byte, and runes whose last byte could stand there, within each of the samples, and in the place of each of their bytes; and each sample cut, and without one of its bytes.
func TestEveryByte(t *testing.T) {
	var others []string
	for i := range 0x100 {
		others = append(others, string([]byte{byte(i)}), string(rune(0x100+i)))
	}
	place := map[string]int{}
	for _, k := range both {
		place[k.s] = k.at
	}
	for _, s := range samples() {
		for i := range len(s) + 1 {
			behind := s[min(i+1, len(s)):]
			for _, at := range []int{0, 1, place[s]} {
				checkAt(t, s[:i], at)
				checkAt(t, s[i:], at)
				checkAt(t, s[:i]+behind, at)
			}
			for _, o := range others {
				checkAt(t, s[:i]+o+s[i:], 1)
				checkAt(t, s[:i]+o+behind, place[s])
			}
		}
	}
}

// 15.3 (W1): at every place there is an answer: what follows, at which nothing more is skipped, or a code at a place from the row of at on with nothing beside it.
func TestEitherOr(t *testing.T) {
	every([]string{" ", "\t", "\n", "#", "x", "---"}, 5, func(s string) {
		for at := range len(s) + 1 {
			for n := -2; n <= 2; n++ {
				for i, got := range []answer{skip(s, at), within(s, at, n)} {
					none := len(got.notes) == 0 && !got.near
					switch {
					case got.to < at, got.to > len(s), got.code != api.OK && !none, len(got.notes) == 0 && got.near,
						i == 0 && got.code != api.OK && (got.code != api.ErrTab || s[got.to] != '\t'),
						i == 1 && got.code != api.OK && (got.code != api.ErrForm || strings.ContainsAny(s[got.to:got.to+1], " \t\n")):
						t.Fatalf("at %d of %q (%d): %v", at, s, n, got)
					case got.code == api.OK:
						// From a place behind the beginning of its row on, nothing can be wrong with that row.
						if again := within(s, got.to, n); !same(again, answer{to: got.to}) {
							t.Fatalf("at %d of %q (%d): %v, and there %v", at, s, n, got, again)
						}
					}
				}
			}
		}
	})
}

// 15.3 (W3): no comment is left out or told twice: what is skipped has those of its parts, wherever it is cut between two rows; and written in rows of their own, they are read as the same ones.
func TestKeepsComments(t *testing.T) {
	cut := func(s string, at int) {
		whole := skip(s, at)
		if whole.code != api.OK {
			return
		}
		if got := within(s, at, -1); got.code == api.OK && !same(got, whole) {
			t.Fatalf("at %d of %q: %v by Skip, %v by Within", at, s, whole, got)
		}
		for mid := at + 1; mid <= whole.to; mid++ {
			if s[mid-1] != '\n' {
				continue
			}
			first, second := skip(s[:mid], at), skip(s, mid)
			if notes := slices.Concat(first.notes, second.notes); !slices.Equal(notes, whole.notes) || second.to != whole.to || first.to != mid {
				t.Fatalf("at %d of %q: %v, cut at %d: %v, %v", at, s, whole, mid, first, second)
			}
		}
		var out strings.Builder
		for _, n := range whole.notes {
			out.WriteString(strings.Repeat("\n", n.Blank) + "#" + n.Text + "\n")
		}
		if got := skip(out.String(), 0); !slices.Equal(got.notes, whole.notes) || got.to != out.Len() || got.code != api.OK {
			t.Fatalf("%q, written as %q: %v", s, out.String(), got)
		}
	}
	every([]string{" ", "\n", "#", "\t", "x"}, 6, func(s string) {
		for at := range len(s) + 1 {
			cut(s, at)
		}
	})
	for _, s := range samples() {
		for at := range len(s) + 1 {
			cut(s, at)
		}
	}
}

// 15.1, 15.2, 15.4: long comments and rows, much White, many blank rows and comments.
func TestLong(t *testing.T) {
	const n = 1 << 15
	long, gap, empty := strings.Repeat("a", n), strings.Repeat(" \t", n), strings.Repeat(" \n", n)
	for _, s := range []string{long, gap, empty, gap + "x", empty + "x", "x" + gap + "y", "x" + empty + "y", "#" + long, "#" + long + gap + "\nx", gap + "#a", empty + "#a", "x" + gap + "#a", "x" + empty + "#a", strings.Repeat("#", n), strings.Repeat("#a\n", n), strings.Repeat("#a\n\n", n) + "\tx", strings.Repeat(" #a \n", n) + "---", strings.Repeat(" ", n) + "\tx", "x\n" + strings.Repeat(" ", n) + "x", "x\n" + strings.Repeat(" ", n) + "\tx", strings.Repeat("---\n", n), strings.Repeat("\t#\n", n) + long, empty + "#b\n" + empty + "#c"} {
		for _, at := range []int{0, 1, len(s) / 2} {
			w := want(s, at)
			if got, want := skip(s, at), w.skip(); !same(got, want) {
				t.Errorf("Skip(%.12q.., %d) has %d comments, %v, %d, %d, want %d, %v, %d, %d", s, at, len(got.notes), got.near, got.to, got.code, len(want.notes), want.near, want.to, want.code)
			}
			for _, col := range []int{-1, 0, n - 1, n} {
				if got, want := within(s, at, col), w.within(col); !same(got, want) {
					t.Errorf("Within(%.12q.., %d, %d) has %d comments, %v, %d, %d, want %d, %v, %d, %d", s, at, col, len(got.notes), got.near, got.to, got.code, len(want.notes), want.near, want.to, want.code)
				}
			}
		}
	}
}

// 15.1, 15.2: what is answered has memory of its own, which it shares with no argument and no other answer, and which nothing changes afterwards.
func TestOwnMemory(t *testing.T) {
	for _, text := range samples() {
		s := strings.Clone(text)
		for at := range len(s) + 1 {
			first, second := skip(s, at), within(s, at, -1)
			want := slices.Clone(second.notes)
			for i, n := range slices.Concat(first.notes, second.notes) {
				if shares(n.Text, s) {
					t.Errorf("at %d of %q: the memory of comment %d is that of the text", at, s, i)
				}
			}
			for _, notes := range [][]api.Comment{first.notes, skip(s, at).notes} {
				notes = notes[:cap(notes)]
				for i := range notes {
					notes[i] = b(99, "other")
				}
			}
			if !slices.Equal(second.notes, want) {
				t.Errorf("at %d of %q: the comments have changed with those of another answer", at, s)
			}
		}
	}
}

// shares reports whether s begins within the memory of t.
func shares(s, t string) bool {
	if s == "" || t == "" {
		return false
	}
	at, from := uintptr(unsafe.Pointer(unsafe.StringData(s))), uintptr(unsafe.Pointer(unsafe.StringData(t)))
	return from <= at && at < from+uintptr(len(t))
}
