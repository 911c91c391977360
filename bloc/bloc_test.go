package bloc_test

import (
	"math"
	"regexp"
	"strconv"
	"strings"
	"testing"
	"unsafe"

	"bosket/api"
	"bosket/bloc"
)

// The chapter's words for a header (every beginning of which this finds is one, too), for the rows that no scalar has, for the byte that makes a row more than blanks, and for what stands between two rows with contents.
var (
	head  = regexp.MustCompile(`\A[|>](?:([1-9])([-+]?)|([-+])([1-9]?))?(?:[ \t]+(#[^\n]*)?)?`)
	mark  = regexp.MustCompile(`\A(?:---|\.\.\.)(?:[ \t\n]|\z)`)
	other = regexp.MustCompile(`[^ \n]`)
	feeds = regexp.MustCompile(`\n+`)
)

// answer is what Read tells; trail is from the # on, and more is whether anything stands where nothing should.
type answer struct {
	kind, style, at int
	text, trail     string
	more            bool
	to              int
	e               api.Errno
}

func read(s string, at, n int) answer {
	x, to, e := bloc.Read(s, at, n)
	more := x.Blank != 0 || x.Anchor != "" || x.Tag != "" || len(x.Kids)+len(x.Lead)+len(x.Foot) != 0 || !x.HasTrail && x.Trail != ""
	trail := ""
	if x.HasTrail {
		trail = "#" + x.Trail
	}
	return answer{x.Kind, x.Style, x.At, x.Text, trail, more, to, e}
}

// failed is the answer that nothing can be read, since what stands at to does not fit.
func failed(to int) answer {
	return answer{to: to, e: api.ErrForm}
}

// scalar is the answer of a scalar that begins at at with this byte.
func scalar(begin byte, at int, text, trail string, to int) answer {
	style := map[byte]int{'|': api.SLiteral, '>': api.SFolded}[begin]
	return answer{api.KScalar, style, at, text, trail, false, to, api.OK}
}

// blanks returns how many blanks row begins with.
func blanks(row string) int {
	return len(row) - len(strings.TrimLeft(row, " "))
}

// wantWidth works w out from the rows behind a header without a digit, or the place in them of what is wrong, which is -1 otherwise.
func wantWidth(lines []string, n int) (w, wrong int) {
	passed := 0
	for i, line := range lines {
		if !other.MatchString(line) {
			passed += len(line)
			continue
		}
		w := blanks(line)
		if w <= n || mark.MatchString(line) {
			break
		}
		passed = 0
		for _, line := range lines[:i] {
			if blanks(line) > w {
				return 0, passed + w
			}
			passed += len(line)
		}
		return w, -1
	}
	return math.MaxInt, -1
}

// folded works out what a folded scalar makes of the contents of its rows, from the first to the last that is not empty, with line feeds between them.
func folded(text string) string {
	out, done := "", 0
	for _, gap := range feeds.FindAllStringIndex(text, -1) {
		from, to := gap[0], gap[1]
		if from == 0 {
			continue
		}
		first := text[strings.LastIndexByte(text[:from], '\n')+1]
		out += text[done:from]
		switch done = to; {
		case strings.IndexByte(" \t", first) >= 0 || strings.IndexByte(" \t", text[to]) >= 0:
			out += text[from:to]
		case to-from == 1:
			out += " "
		default:
			out += text[from+1 : to]
		}
	}
	return out + text[done:]
}

// wantRead works Read out from the chapter's words.
func wantRead(s string, at, n int) answer {
	if at < 0 || at >= len(s) || s[at] != '|' && s[at] != '>' {
		return failed(at)
	}
	parts := head.FindStringSubmatch(s[at:])
	from := at + len(parts[0])
	if from < len(s) && s[from] != '\n' {
		return failed(from)
	}
	from = min(from+1, len(s))
	lines := strings.SplitAfter(s[from:], "\n")
	if lines[len(lines)-1] == "" {
		lines = lines[:len(lines)-1]
	}
	var w, wrong int
	if digit, err := strconv.Atoi(parts[1] + parts[4]); err == nil {
		w = min(max(n, 0), len(s)+1) + digit
	} else if w, wrong = wantWidth(lines, n); wrong >= 0 {
		return failed(from + wrong)
	}
	to, text := from, ""
	for _, line := range lines {
		if mark.MatchString(line) || other.MatchString(line) && blanks(line) < w {
			break
		}
		to += len(line)
		row := strings.TrimSuffix(line, "\n")
		text += row[min(w, len(row)):] + line[len(row):]
	}
	filled := strings.TrimRight(text, "\n")
	rest := text[len(filled):]
	switch parts[2] + parts[3] {
	case "-":
		rest = ""
	case "":
		rest = rest[:min(len(rest), len(filled), 1)]
	}
	if s[at] == '>' {
		filled = folded(filled)
	}
	return scalar(s[at], at, filled+rest, strings.TrimRight(parts[5], " \t"), to)
}

// checkAt holds Read against the chapter's words at one offset of s.
func checkAt(t *testing.T, s string, at int, columns ...int) {
	t.Helper()
	for _, n := range columns {
		if got, want := read(s, at, n), wantRead(s, at, n); got != want {
			t.Fatalf("Read(%q, %d, %d) = %+v, want %+v", s, at, n, got, want)
		}
	}
}

// check holds Read against the chapter's words at every place in s and outside of it.
func check(t *testing.T, s string) {
	t.Helper()
	for at := -1; at <= len(s)+1; at++ {
		checkAt(t, s, at, -1, 0, 1)
	}
}

// every calls use with all texts of at most most of these parts.
func every(parts []string, most int, use func(string)) {
	var longer func(string, int)
	longer = func(s string, n int) {
		use(s)
		if n == most {
			return
		}
		for _, p := range parts {
			longer(s+p, n+1)
		}
	}
	longer("", 0)
}

// scalars are block scalars, each the whole of its text, within a collection of the column n: what they stand for, and their comments.
var scalars = []struct {
	s           string
	n           int
	text, trail string
}{
	{"|\n a\n\n", -1, "a\n", ""}, {"|", 0, "", ""}, {">", -1, "", ""}, {"|\n", 0, "", ""}, {">\n", 5, "", ""}, {"|-", 0, "", ""}, {"|+\n", 0, "", ""}, {"|1", 0, "", ""}, {">9\n", 0, "", ""}, {"|1-\n", 0, "", ""}, {"|-1", 0, "", ""}, {"|9+", 0, "", ""}, {">+2\n", -1, "", ""}, // headers alone
	{"| ", 0, "", ""}, {"|\t", 0, "", ""}, {"| \t \n", 0, "", ""}, {"|- ", 0, "", ""}, {">+\t\n", 0, "", ""}, {"|1 \n", 0, "", ""}, {">2-  ", 0, "", ""}, {"|-2 \n  a", 0, "a", ""}, {"| \n a\n", 0, "a\n", ""}, {">\t\n a\n", 0, "a\n", ""}, // with White
	{"| #", 0, "", "#"}, {"|\t#\n", 0, "", "#"}, {"| # c", 0, "", "# c"}, {"|  \t#c\n a\n", 0, "a\n", "#c"}, {"> # c \t \n a\n", 0, "a\n", "# c"}, {"| # \n", 0, "", "#"}, {"| #\t\n a", 0, "a", "#"}, {"|- #- 1 + #\n a\n", 0, "a", "#- 1 + #"}, {"|+ ##\n a\n\n", 0, "a\n\n", "##"}, {"|2 # |2\n   a\n", 0, " a\n", "# |2"}, {">1- #\t c\n  a\n", 0, " a", "#\t c"}, {"|-1\t#c\n  a\n", 0, " a", "#c"}, {"| # é\u00a0\n é\n", 0, "é\n", "# é\u00a0"}, {"| #\xff\r\n a\n", 0, "a\n", "#\xff\r"}, {"| # a\v\n", 0, "", "# a\v"}, {"| #\u010a \n", 0, "", "#\u010a"}, {"| #\u0120\n", 0, "", "#\u0120"}, {"| #\u0109", 0, "", "#\u0109"}, // and with comments
	{"|1\n a\n", -1, "a\n", ""}, {"|1\n a\n", -9, "a\n", ""}, {"|1\n a\n", 0, "a\n", ""}, {"|1\n  a\n", 1, "a\n", ""}, {"|1\n     a\n", 3, " a\n", ""}, {"|2\n    a\n", 1, " a\n", ""}, {"|3\n   a\n    b\n   c\n", 0, "a\n b\nc\n", ""}, {"|9\n         a\n", 0, "a\n", ""}, {">9\n          a\n", -1, " a\n", ""}, {"|1\n \ta\n", 0, "\ta\n", ""}, {"|1\n # a\n", 0, "# a\n", ""}, {"|1\n   \n a\n", 0, "  \na\n", ""}, {"|1\n   \n \n", 0, "  \n", ""}, {"|2\n\n \n  a\n", 0, "\n\na\n", ""}, {"|2\n  \n   \n", 0, "\n \n", ""}, {"|1\n ---\n ...\n", 0, "---\n...\n", ""}, // a digit
	{"|\na\n", -1, "a\n", ""}, {"|\na\n", -2, "a\n", ""}, {"|\n a\n", -1, "a\n", ""}, {"|\n  a\n", 0, "a\n", ""}, {"|\n    a\n", 3, "a\n", ""}, {"|\n  a\n   b\n  c\n", 0, "a\n b\nc\n", ""}, {"|\n  a\n", 1, "a\n", ""}, {"|\n\ta\n", -1, "\ta\n", ""}, {"|\n \ta\n", 0, "\ta\n", ""}, {"|\n \t\n", 0, "\t\n", ""}, {"|\n \t\n", -1, "\t\n", ""}, {"|\n\t\n\ta\n", -1, "\t\n\ta\n", ""}, {"|\n # a\n", 0, "# a\n", ""}, {"|\n#a\n#b\n", -1, "#a\n#b\n", ""}, {"|\n\n  a\n", 0, "\na\n", ""}, {"|\n \n  \n\n  a\n", 0, "\n\n\na\n", ""}, {"|\n  \n  a\n   \n", 0, "\na\n \n", ""}, {"|\n a\n  \n   \n", 0, "a\n \n  \n", ""}, {"|\n |\n >\n", 0, "|\n>\n", ""}, {"|\n é\n  é\n", 0, "é\n é\n", ""}, {"|\n\u00a0a\n", -1, "\u00a0a\n", ""}, {"|\n \xff\r\n", 0, "\xff\r\n", ""}, {"|\n \u010a\u0120\n", 0, "\u010a\u0120\n", ""}, {"|\na\n b\n\tc\n", -1, "a\n b\n\tc\n", ""}, {"|\na\n \n\n", -1, "a\n \n", ""}, {"|\n \x00\n", 0, "\x00\n", ""}, {"|\n\r\n", -1, "\r\n", ""}, // none
	{"|\n---a\n", -1, "---a\n", ""}, {"|\n--\n----\n", -1, "--\n----\n", ""}, {"|\na\n....\n..\n", -1, "a\n....\n..\n", ""}, {"|\n --- a\n ...\n", -1, "--- a\n...\n", ""}, {"|\na\n ---\n", -1, "a\n ---\n", ""}, {"|\n---#\n...\v\n", -1, "---#\n...\v\n", ""}, {"|\n\t---\n", -1, "\t---\n", ""}, // rows that are no marks
	{"|\n  \n", 0, "", ""}, {"|\n\n\n", -1, "", ""}, {"|\n   \n \n\n", 0, "", ""}, {"|+\n   \n \n\n", 0, "\n\n\n", ""}, {"|+\n\n  ", 0, "\n", ""}, {"|+\n  ", -1, "", ""}, {"|-\n\n\n", 0, "", ""}, {">+\n\n\n", 0, "\n\n", ""}, {">-\n\n", 0, "", ""}, {">\n \n", 0, "", ""}, {"|1+\n\n \n", 0, "\n\n", ""}, {"|1\n\n \n", 0, "", ""}, {"|1-\n\n \n", 0, "", ""}, {">2+\n  \n \n", 0, "\n\n", ""}, {"|3\n    \n", 1, "", ""}, {"|+\n\n", math.MaxInt, "\n", ""}, {"|9+\n \n         \n", math.MaxInt, "\n\n", ""}, // all rows are empty
	{"|\n a", 0, "a", ""}, {"|\n a\n", 0, "a\n", ""}, {"|\n a\n\n", 0, "a\n", ""}, {"|\n a\n\n\n \n", 0, "a\n", ""}, {"|\n a\n ", 0, "a\n", ""}, {"|\n a\n\n ", 0, "a\n", ""}, {"|\n a\n  ", 0, "a\n ", ""}, {"|\n a\n\n  \n", 0, "a\n\n \n", ""}, {"|\n a\n\n  \n\n", 0, "a\n\n \n", ""}, {"|\n a\n b", 0, "a\nb", ""}, // line feeds at the end: at most one,
	{"|-\n a", 0, "a", ""}, {"|-\n a\n", 0, "a", ""}, {"|-\n a\n\n\n", 0, "a", ""}, {"|-\n\n a\n", 0, "\na", ""}, {"|-\n a\n  \n", 0, "a\n ", ""}, {"|-\n a\n\n b\n\n", 0, "a\n\nb", ""}, {"|1-\n   \n", 0, "  ", ""}, // none,
	{"|+\n a", 0, "a", ""}, {"|+\n a\n", 0, "a\n", ""}, {"|+\n a\n\n\n", 0, "a\n\n\n", ""}, {"|+\n a\n \n\n ", 0, "a\n\n\n", ""}, {"|+\n\n a\n", 0, "\na\n", ""}, {"|+\n a\n  \n\n", 0, "a\n \n\n", ""}, {"|+\n\n\n a\n\n b\n\n\n", 0, "\n\na\n\nb\n\n\n", ""}, {"|2+\n   \n\n", 0, " \n\n", ""}, // as many as there are
	{">\n a\n b\n", 0, "a b\n", ""}, {">\na\nb\n", -1, "a b\n", ""}, {">\n a\n\n b\n", 0, "a\nb\n", ""}, {">\n a\n\n\n b\n", 0, "a\n\nb\n", ""}, {">\n a\n \n b\n", 0, "a\nb\n", ""}, {">\n a\n  b\n c\n", 0, "a\n b\nc\n", ""}, {">\n a\n \tb\n c\n", 0, "a\n\tb\nc\n", ""}, {">\n a\n\n  b\n\n c\n", 0, "a\n\n b\n\nc\n", ""}, {">\n a\n  \n b\n", 0, "a\n \nb\n", ""}, {">1\n  a\n  b\n c\n d\n", 0, " a\n b\nc d\n", ""}, {">\n\n a\n", 0, "\na\n", ""}, {">\n\n\n a\n b\n", 0, "\n\na b\n", ""}, {">1\n   \n\n a\n", 0, "  \n\na\n", ""}, {">\n a\n b", 0, "a b", ""}, {">-\n a\n b\n\n", 0, "a b", ""}, {">+\n a\n b\n\n", 0, "a b\n\n", ""}, {">\n a\n\n\n", 0, "a\n", ""}, {">+\n\n a\n  b\n\n", 0, "\na\n b\n\n", ""}, {">\n  a\n   b\n", 1, "a\n b\n", ""}, {">\n é\n\n é\n é\n", 0, "é\né é\n", ""}, {">\n \u00a0a\n \u00a0b\n", 0, "\u00a0a \u00a0b\n", ""}, {">\n # a\n - b\n", 0, "# a - b\n", ""}, {">-\n a \n b\t\n c\n", 0, "a  b\t c", ""}, {">\n\ta\n\tb\n", -1, "\ta\n\tb\n", ""}, // folded rows
}

// ends are what a scalar of any column may be followed by, and then what one that is indented may be.
var marks = []string{"---", "---\n", "--- a", "---\ta\n", "...", "...\n", "... # c", "...\t\n"}
var less = []string{"b", "b: |\n", "# c\n", "\tb\n", "\t", "\t\n", "-", "-- \n", "---b", "....\n", "é", "\xff\n", "\r\n"}

// 13.1 to 13.3: the text, the comment and where the scalar ends, written out; also within a text, in any row and from any column on.
func TestRead(t *testing.T) {
	for _, c := range scalars {
		behinds := []string{""}
		if strings.HasSuffix(c.s, "\n") {
			behinds = append(behinds, marks...)
			if c.n >= 0 {
				behinds = append(behinds, less...)
			}
		}
		for _, before := range []string{"", " ", "x: ", "--- ", "...", "? ", "\n", "\n\n  ", "# ", "|", ">\n a\n", "\t", "é", "\xff"} {
			for _, behind := range behinds {
				s, want := before+c.s+behind, scalar(c.s[0], len(before), c.text, c.trail, len(before)+len(c.s))
				if got := read(s, len(before), c.n); got != want {
					t.Errorf("Read(%q, %d, %d) = %+v, want %+v", s, len(before), c.n, got, want)
				}
			}
		}
		check(t, c.s)
		checkAt(t, c.s, 0, c.n)
	}
}

// 13.2: where scalars end that have rows behind them.
func TestEnds(t *testing.T) {
	for _, c := range []struct {
		s, behind string
		n         int
		text      string
	}{
		{"|\n  a\n", " b\n", 0, "a\n"}, {"|\n  a\n\n", " b\n", 0, "a\n"}, {"|+\n  a\n\n \n", " b\n", 0, "a\n\n\n"}, {"|\n  a\n   b\n", " \tc\n  d\n", 0, "a\n b\n"}, {"|\n  a\n", " \t\n  b\n", 0, "a\n"}, {"|\n  a\n", " # c", -1, "a\n"}, // rows of which the first is not far enough in
		{"|\n   a\n", "  b\n   c\n", 1, "a\n"}, {"|\n a\n", "b\n c\n", -1, "a\n"}, {"|\n a\n\n", "b\n", -1, "a\n"}, {"|2\n  a\n", " b", 0, "a\n"}, {"|2\n   a\n", "  b", 1, "a\n"}, {"|2\n", "  b", 1, ""}, {"|1\n\n", "b", -1, ""}, {"|9\n", "        b", 0, ""}, {"|1+\n   \n  \n", " b", 1, " \n\n"}, {"|3\n   a\n    \n", "  \t\n", 0, "a\n \n"}, {"|1\n", " a\n", 1, ""},
		{"|\n", "b\n", 0, ""}, {"|\n", " b\n", 1, ""}, {"|\n\n  \n", "b\n", 0, ""}, {"|\n    \n", "  b\n", 2, ""}, {"|+\n    \n\n", "  b\n", 5, "\n\n"}, {"|\n", "a\n", math.MaxInt, ""}, {"|+\n \n", "      a\n", math.MaxInt, "\n"}, {"|\n \n", "\tb\n", 0, ""}, {"|\n", "|\n a\n", 0, ""}, {">+\n\n", "a\nb\n", 0, "\n"}, // no contents, since the first row that has any is not far enough in
		{"|\n", "---\n", -1, ""}, {"|\n", "--- a\n b\n", -5, ""}, {"|\n   \n", "...", -1, ""}, {"|+\n   \n\n", "...\n", -1, "\n\n"}, {"|\n", "---\ta", math.MinInt, ""}, {"|1\n", "---\n", -1, ""}, // or is a mark
		{"|\na\n", "---\nb\n", -1, "a\n"}, {"|\na\n\n", "... b\n", -1, "a\n"}, {"|+\na\n\n", "--- b\n", -1, "a\n\n"}, {"|\na\n ---\n", "---\n", -1, "a\n ---\n"}, {">\na\nb\n", "...", -1, "a b\n"}, {">-\na\nb\n...a\n", "...\ta\n", -1, "a b ...a"}, {"|\n a\n", "---\n b", -1, "a\n"}, // and marks behind contents
	} {
		s, want := c.s+c.behind, scalar(c.s[0], 0, c.text, "", len(c.s))
		if got := read(s, 0, c.n); got != want {
			t.Errorf("Read(%q, 0, %d) = %+v, want %+v", s, c.n, got, want)
		}
		check(t, s)
		checkAt(t, s, 0, c.n)
	}
}

// errForm are texts at whose beginning no scalar can be read within a collection of the column n: where what is wrong stands.
var errForm = []struct {
	s     string
	n, to int
}{
	{"", 0, 0}, {"a", 0, 0}, {" |", 0, 0}, {"\n|", 0, 0}, {"-|", 0, 0}, {"1>", 0, 0}, {"+", 0, 0}, {"#", 0, 0}, {"<", 0, 0}, {"}", 0, 0}, {"!|", 0, 0}, {"ż", 0, 0}, {"\u013e", 0, 0}, {"\xff", 0, 0}, {"\x00", 0, 0}, {"'|'", 0, 0}, // neither | nor >
	{"|0", 0, 1}, {"|0\n", 0, 1}, {"|00", 0, 1}, {"|01", 0, 1}, {"|10", 0, 2}, {"|12", 0, 2}, {"|11", 0, 2}, {"|1+1", 0, 3}, {"|+12", 0, 3}, {"|-0", 0, 2}, {"|++", 0, 2}, {"|--", 0, 2}, {"|+-", 0, 2}, {"|-+", 0, 2}, {"|-1-", 0, 3}, {"|1+-", 0, 3}, {"|1--", 0, 3}, {">9-0", 0, 3}, {"|:", 0, 1}, {"|;", 0, 1}, {"|/", 0, 1}, {"|,", 0, 1}, {"|.", 0, 1}, {"|*", 0, 1}, {"||", 0, 1}, {"|>", 0, 1}, {">|", 0, 1}, {">>\n", 0, 1}, {"|٣", 0, 1}, {"|\u0131", 0, 1}, {"|\u012b", 0, 1}, {"|\xff", 0, 1}, {"|\x00", 0, 1}, {"|a", 0, 1}, {"|1a", 0, 2}, {"|-a\n a", 0, 2}, {"|1-a", 0, 3}, {"|\r\n a", 0, 1}, {"|-\r\n", 0, 2}, {"|\v", 0, 1}, {"|\u00a0#", 0, 1}, {"|\u0120", 0, 1}, {"|\u0109", 0, 1}, {"|]", 0, 1}, {"|,\n", 0, 1}, {"|2,", 0, 2}, // what fits into no header,
	{"|#", 0, 1}, {"|# c\n a", 0, 1}, {"|1#", 0, 2}, {"|-#c", 0, 2}, {"|+2#", 0, 3}, {">2-#", 0, 3}, {"|\u0123", 0, 1}, // a comment without White ahead of it,
	{"| a", 0, 2}, {"|\ta\n b", 0, 2}, {"|  \t a", 0, 5}, {"| 1", 0, 2}, {"| -", 0, 2}, {"| +", 0, 2}, {"|1 -", 0, 3}, {"|- 1", 0, 3}, {"|1- 1", 0, 4}, {"| |", 0, 2}, {"|  \r", 0, 3}, {"| \u00a0", 0, 2}, {"| \u0120", 0, 2}, {"| \u0123", 0, 2}, {"| a #", 0, 2}, {"|-1 : #\n", 0, 4}, {"> \xff", 0, 2}, {"| \v# c", 0, 2}, {"| ]", 0, 2}, // or what stands behind White and is none
	{"|\n  \n a\n", 0, 3}, {"|\n \na\n", -1, 2}, {"|\n    \n  a\n", 1, 4}, {"|\n\n   \n a\n", 0, 4}, {"|\n \n  \n   \n a\n", 0, 5}, {"|\n  \n   \n a\n", 0, 3}, {">\n   \n  a\n", 0, 4}, {"> # c\n  \n a", 0, 7}, {"|-\n \n\na", -1, 3}, {"|+\n  \n # c\n", 0, 4}, {"|\n  \n \ta\n", 0, 3}, {"|\n  \n \t\n", 0, 3}, {"|\n \n---a\n", -1, 2}, {"|\n\n\n    \n\n   a\n    b\n", 0, 7}, {"|\n  \n a", math.MinInt, 3}, {"|\n  \n \xff\n", 0, 3}, {"|\n  \n \r\n", 0, 3}, // a row of blanks that goes further than the first row with contents
}

// 13.1, 13.2: ErrForm at the first place that does not fit, with nothing beside it, also within a text; and at at if that is outside of it.
func TestErrForm(t *testing.T) {
	for _, c := range errForm {
		for _, before := range []string{"", " ", "x: ", "--- ", "\n", "a\n\n  ", "# ", "|", ">\n a\n"} {
			if got, want := read(before+c.s, len(before), c.n), failed(len(before)+c.to); got != want {
				t.Errorf("Read(%q, %d, %d) = %+v, want %+v", before+c.s, len(before), c.n, got, want)
			}
		}
		check(t, c.s)
		checkAt(t, c.s, 0, c.n)
	}
	for _, s := range []string{"", "|", ">\n", "|\n a\n", "|0", "| "} {
		for _, at := range []int{-1, -2, len(s), len(s) + 1, len(s) + 7, math.MinInt, math.MaxInt} {
			for _, n := range []int{-1, 0, 3, math.MinInt, math.MaxInt} {
				if got, want := read(s, at, n), failed(at); got != want {
					t.Errorf("Read(%q, %d, %d) = %+v, want %+v", s, at, n, got, want)
				}
			}
		}
	}
}

// 13.1: every header of up to five of those parts of which headers are made, and of what does not fit in.
func TestEveryHeader(t *testing.T) {
	every([]string{"0", "1", "2", "9", "+", "-", " ", "\t", "#", "a"}, 5, func(header string) {
		for _, s := range []string{"|" + header, ">" + header + "\n   \n  a\n  b\n\n\nc"} {
			checkAt(t, s, 0, 0)
		}
	})
	every([]string{"1", "-", " ", "#", "\t", "# ", "\n", "\r", "é"}, 6, func(header string) {
		checkAt(t, "|"+header, 0, 0)
	})
}

// 13.1, 13.2: every digit, with and without a sign on either side of it, and every column near to it: the width is the sum of the digit and the column.
func TestWidths(t *testing.T) {
	for digit := 1; digit <= 9; digit++ {
		for n := -3; n <= 12; n++ {
			w := digit + max(n, 0)
			for _, c := range []struct{ header, behind string }{{"%", "\n"}, {"%-", ""}, {"-%", ""}, {"%+", "\n\n"}, {"+%", "\n\n"}} {
				header := "|" + strings.ReplaceAll(c.header, "%", strconv.Itoa(digit)) + "\n"
				for in := range w + 3 {
					row := strings.Repeat(" ", in) + "a"
					s, want := header+row+"\n\n", scalar('|', 0, "", "", len(header))
					if in >= w {
						want = scalar('|', 0, row[w:]+c.behind, "", len(s))
					}
					if got := read(s, 0, n); got != want {
						t.Errorf("Read(%q, 0, %d) = %+v, want %+v", s, n, got, want)
					}
				}
			}
		}
	}
}

// 13.2: without a digit the width is the indentation of the first row that is more than blanks, if that is greater than the column, whatever blank rows stand ahead of it.
func TestFoundWidths(t *testing.T) {
	for n := -2; n <= 4; n++ {
		for in := range 6 {
			for ahead := range 8 {
				for _, row := range []string{"a", "# a", "\t", "é", "---a", "---", "--- a", "..."} {
					s := "|+\n\n" + strings.Repeat(" ", ahead) + "\n" + strings.Repeat(" ", in) + row + "\n\n"
					want := scalar('|', 0, "\n\n"+row+"\n\n", "", len(s))
					switch {
					case in <= n || in == 0 && (row == "---" || row == "--- a" || row == "..."):
						want = scalar('|', 0, "\n\n", "", 4+ahead+1)
					case ahead > in:
						want = failed(4 + in)
					}
					if got := read(s, 0, n); got != want {
						t.Errorf("Read(%q, 0, %d) = %+v, want %+v", s, n, got, want)
					}
				}
			}
		}
	}
}

// 13.1 to 13.3, 13.5: every text of one and of two bytes, alone, and where the header, the rows and the scalar begin and end.
func TestEveryPairOfBytes(t *testing.T) {
	for a := range 0x100 {
		check(t, string([]byte{byte(a)}))
		for b := range 0x100 {
			pair := string([]byte{byte(a), byte(b)})
			checkAt(t, pair, 0, 0)
			checkAt(t, pair, 1, 0)
			for _, begin := range []string{"|", ">"} {
				checkAt(t, begin+pair, 0, 0)
				checkAt(t, begin+pair+"\n  a\n\n", 0, 0)
				checkAt(t, begin+" "+pair+"\n a", 0, 0)
				checkAt(t, begin+"\t#"+pair+"\n a", 0, 0)
				checkAt(t, begin+"\n"+pair, 0, -1, 0)
				checkAt(t, begin+"\n "+pair+"\n", 0, -1, 0)
				checkAt(t, begin+"1\n"+pair+"\n a", 0, 0)
				checkAt(t, begin+"+\n "+pair+"\n  a", 0, -1, 1)
				checkAt(t, begin+"\n a"+pair+" b\n", 0, 0)
				checkAt(t, begin+"\n a\n"+pair+"b\n", 0, 0)
				checkAt(t, begin+"\na\n "+pair+"\n", 0, -1)
			}
		}
	}
}

// 13.1 to 13.3, 13.5: every text of up to so many of those parts of which scalars are made.
func TestEveryText(t *testing.T) {
	for _, begin := range []string{"|", ">"} {
		use := func(header string, columns ...int) func(string) {
			return func(s string) { checkAt(t, begin+header+"\n"+s, 0, columns...) }
		}
		every([]string{"a", " ", "\n"}, 9, use("", -1, 0))
		for _, header := range []string{"", "-", "+", "1", "1-", "+2"} {
			every([]string{"a", " ", "\n"}, 7, use(header, -1, 0, 1))
		}
		every([]string{"a", " ", "\t", "\n"}, 6, use("", -1, 0, 1))
		every([]string{"a", " a", "  a", " \ta", "\n", " \n", "  \n", "\t\n"}, 4, use("+", -1, 0, 1))
		every([]string{"a\n", " a\n", "  a\n", " \t\n", "\n", " \n", "  \n"}, 5, use("", -1, 0, 1))
		every([]string{"a", " ", "\n", "---", "...", "--- ", "\n...", "\t", "#"}, 4, use("", -1, 0))
		every([]string{"a", " ", "\n", "---\n", "...\n", "-", "b\n"}, 5, use("+", -1))
		every([]string{"a", " ", "\t", "\n", "-", "+", "1", "|", ">", "#", ": ", "\"", "\\", ",", "]", "é", "\xff", "\r", "\u0120", "\u010a", "\u0109", "\u2028"}, 3, use("", -1, 0))
		every([]string{"a", "\n", "\n ", "\n  ", "1", "-", " #"}, 5, func(s string) { checkAt(t, begin+s, 0, -1, 0) })
	}
	every([]string{"a", " ", "\n", "|", "1", "+"}, 6, func(s string) { check(t, s) })
}

// 13.1 to 13.3, 13.5: every byte, and runes whose last byte could stand there, ahead of, within and behind each of the samples, and in the place of each of their bytes; and each sample cut, and without one of its bytes.
func TestEveryByte(t *testing.T) {
	var others []string
	for i := range 0x100 {
		others = append(others, string([]byte{byte(i)}), string(rune(0x100+i)))
	}
	use := func(s string, n int) {
		for at := range len(s) + 1 {
			behind := s[min(at+1, len(s)):]
			checkAt(t, s[:at], 0, n)
			checkAt(t, s[:at]+behind, 0, n)
			checkAt(t, s, at, n)
			for _, o := range others {
				checkAt(t, s[:at]+o+s[at:], 0, n)
				checkAt(t, s[:at]+o+behind, 0, n)
			}
		}
	}
	for _, c := range scalars {
		use(c.s, c.n)
	}
	for _, c := range errForm {
		use(c.s, c.n)
	}
}

// 13.2, 13.5: columns that are far out.
func TestFarColumns(t *testing.T) {
	columns := []int{math.MinInt, math.MinInt + 1, math.MinInt32, -2, 2, 3, 4, 5, 20, math.MaxInt32, math.MaxInt - 9, math.MaxInt - 1, math.MaxInt}
	for _, c := range scalars {
		checkAt(t, c.s, 0, columns...)
		checkAt(t, c.s+"\n---\n", 0, columns...)
	}
	for _, c := range errForm {
		checkAt(t, c.s, 0, columns...)
	}
}

// 13.4 (W1): at every place of every text there is a scalar, or ErrForm at a place from there on, with nothing beside it.
func TestEitherOr(t *testing.T) {
	every([]string{"a", " ", "\n", "|", "1", "-", "#", ">\n", "\t"}, 5, func(s string) {
		for at := range len(s) + 1 {
			got := read(s, at, 0)
			if got.e == api.OK && (at >= got.to || got.to > len(s) || got.to < len(s) && s[got.to-1] != '\n' || got.kind != api.KScalar || got.at != at) {
				t.Fatalf("Read(%q, %d, 0) = %+v", s, at, got)
			}
			if got.e != api.OK && (got.to < at || got.to > len(s) || got != failed(got.to)) {
				t.Fatalf("Read(%q, %d, 0) = %+v", s, at, got)
			}
		}
	})
}

// indented returns the rows of text with this ahead of each that is not empty.
func indented(text, indent string) string {
	lines := strings.SplitAfter(text, "\n")
	for i, line := range lines {
		if strings.Trim(line, "\n") != "" {
			lines[i] = indent + line
		}
	}
	return strings.Join(lines, "")
}

// unfolded returns rows of a folded scalar whose text this is: each blank that can be the end of a row is one, if broken.
func unfolded(text string, broken bool) string {
	out := ""
	for i := range len(text) {
		spaced := i == 0 || strings.IndexByte(" \t\n", text[i-1]) >= 0 || i+1 == len(text) || strings.IndexByte(" \t\n", text[i+1]) >= 0
		row := text[strings.LastIndexByte(text[:i], '\n')+1:]
		switch {
		case broken && text[i] == ' ' && !spaced && row[0] != ' ' && row[0] != '\t':
			out += "\n"
		case text[i] == '\n' && i > 0 && text[i-1] != '\n':
			// The first line feed behind a row is doubled, unless it or the next row with contents begins with White.
			above := text[strings.LastIndexByte(text[:i], '\n')+1]
			below := strings.TrimLeft(text[i:], "\n")
			out += "\n"
			if below != "" && strings.IndexByte(" \t", above) < 0 && strings.IndexByte(" \t", below[0]) < 0 {
				out += "\n"
			}
		default:
			out += text[i : i+1]
		}
	}
	return out
}

// 13.4 (W2): every text can be written as a literal and as a folded scalar, of any width; each is read as that text.
func TestReadsWritten(t *testing.T) {
	every([]string{"a", " ", "\t", "\n", "#", "é", "---"}, 6, func(text string) {
		filled := strings.TrimRight(text, "\n")
		chomp, end := "+", ""
		switch {
		case filled == text:
			chomp, end = "-", "\n\n" // which are not read
		case filled+"\n" == text && filled != "":
			chomp, end = "", "\n \n" // of which none is read
		}
		for _, body := range []string{"|" + text, ">" + unfolded(text, false), ">" + unfolded(text, true)} {
			begin, body := body[:1], body[1:]
			for _, c := range []struct {
				digit, indent string
				n             int
			}{{"1", " ", -1}, {"3", "    ", 1}, {"", "  ", 1}} {
				if c.digit == "" && strings.TrimLeft(body, "\n") != "" && strings.TrimLeft(body, "\n")[0] == ' ' {
					continue // its indentation would be taken for greater than it is
				}
				s := begin + c.digit + chomp + "\n" + indented(body, c.indent) + end
				for _, behind := range []string{"", "...\n", "---"} {
					if behind != "" && !strings.HasSuffix(s, "\n") {
						continue
					}
					if got, want := read(s+behind, 0, c.n), scalar(begin[0], 0, text, "", len(s)); got != want {
						t.Fatalf("Read(%q, 0, %d) = %+v, want %+v", s+behind, c.n, got, want)
					}
				}
			}
		}
	})
}

// 13.1 to 13.3, 13.5: long rows, and many of them, end.
func TestLong(t *testing.T) {
	const n = 1 << 20
	a, far, feeds := strings.Repeat("a", n), strings.Repeat(" ", n), strings.Repeat("\n", n)
	for _, c := range []struct {
		name, s string
		n       int
		want    answer
	}{
		{"a long row", "|\n " + a + "\n", 0, scalar('|', 0, a+"\n", "", n+4)},
		{"a long comment", "| #" + a + far, 0, scalar('|', 0, "", "#"+a, 2*n+3)},
		{"much White", "|" + far + "#", 0, scalar('|', 0, "", "#", n+2)},
		{"much White and no comment", "|" + far + "a", 0, failed(n + 1)},
		{"many rows", "|\n" + strings.Repeat(" a\n", n), 0, scalar('|', 0, strings.Repeat("a\n", n), "", 3*n+2)},
		{"many folded rows", ">\n" + strings.Repeat(" a\n", n), 0, scalar('>', 0, strings.Repeat("a ", n-1)+"a\n", "", 3*n+2)},
		{"many rows and a mark", ">-\n" + strings.Repeat("a\n", n) + "---\n", -1, scalar('>', 0, strings.Repeat("a ", n-1)+"a", "", 2*n+3)},
		{"many blank rows", "|\n" + feeds, 0, scalar('|', 0, "", "", n+2)},
		{"many blank rows that are kept", ">+\n" + feeds, 0, scalar('>', 0, feeds, "", n+3)},
		{"many blank rows ahead", "|\n" + feeds + " a", 0, scalar('|', 0, feeds+"a", "", n+4)},
		{"many blank rows behind", "|+\n a" + feeds, 0, scalar('|', 0, "a"+feeds, "", n+5)},
		{"many blank rows between", ">-\n a" + feeds + "\n b", 0, scalar('>', 0, "a"+feeds+"b", "", n+8)},
		{"many rows of blanks", "|\n" + strings.Repeat("  \n", n) + "  a\n", 0, scalar('|', 0, feeds+"a\n", "", 3*n+6)},
		{"many rows of blanks and one that goes too far", "|\n" + strings.Repeat("  \n", n) + "   \n  a\n", 0, failed(3*n + 4)},
		{"far in", "|\n" + far + "a\n", n - 1, scalar('|', 0, "a\n", "", n+4)},
		{"not far enough in", "|\n" + far + "a\n", n, scalar('|', 0, "", "", 2)},
		{"a row of blanks", "|1\n" + far, 0, scalar('|', 0, far[1:], "", n+3)},
	} {
		if got := read(c.s, 0, c.n); got != c.want {
			t.Errorf("%s: %d bytes, %d, %d, want %d, %d, %d", c.name, len(got.text), got.to, got.e, len(c.want.text), c.want.to, c.want.e)
		}
	}
}

// 13.1, 13.3: the text and the comment have memory of their own, which they share with no argument.
func TestOwnMemory(t *testing.T) {
	for _, c := range scalars {
		s := strings.Clone(c.s)
		x, _, _ := bloc.Read(s, 0, c.n)
		if shares(x.Text, s) || shares(x.Trail, s) {
			t.Errorf("Read(%q, 0, %d) = %+v, with a piece of its argument", s, c.n, x)
		}
	}
}

// shares reports whether s begins within the memory of t.
func shares(s, t string) bool {
	at, from := uintptr(unsafe.Pointer(unsafe.StringData(s))), uintptr(unsafe.Pointer(unsafe.StringData(t)))
	return s != "" && from <= at && at < from+uintptr(len(t))
}
