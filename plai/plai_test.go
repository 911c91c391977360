package plai_test

import (
	"math"
	"regexp"
	"strings"
	"testing"
	"unsafe"

	"bosket/api"
	"bosket/plai"
)

// The chapter's words for what a plain scalar begins with, and for the colon behind a further part.
var (
	begins     = regexp.MustCompile("\\A(?:[^ \t\n\\-?:,\\[\\]{}#&*!|>'\"%@`]|[\\-?:][^ \t\n])")
	beginsFlow = regexp.MustCompile("\\A(?:[^ \t\n\\-?:,\\[\\]{}#&*!|>'\"%@`]|[\\-?:][^ \t\n,\\[\\]{}])")
	colon      = regexp.MustCompile(`\A[ \t]*(:)(?:[ \t\n]|\z)`)
	mark       = regexp.MustCompile(`\A(?:---|\.\.\.)(?:[ \t]|\z)`)
	lineFeeds  = regexp.MustCompile(`\n+`)
)

// What ends a part, and how much of it belongs to the part.
var (
	marks     = map[string]int{"\n": 0, " #": 1, "\t#": 1, ": ": 0, ":\t": 0, ":\n": 0}
	marksFlow = map[string]int{",": 0, "[": 0, "]": 0, "{": 0, "}": 0, ":,": 0, ":[": 0, ":]": 0, ":{": 0, ":}": 0}
)

// within reports whether at is the index of a byte of s.
func within(s string, at int) bool {
	return 0 <= at && at < len(s)
}

// blank reports whether nothing but White is in s.
func blank(s string) bool {
	return strings.Trim(s, " \t") == ""
}

// wantBegins works Begins out from the chapter's words.
func wantBegins(s string, at int, flow bool) bool {
	if flow {
		return within(s, at) && beginsFlow.MatchString(s[at:])
	}
	return within(s, at) && begins.MatchString(s[at:])
}

// wantPart works Part out from the chapter's words.
func wantPart(s string, at int, flow bool) int {
	if !within(s, at) {
		return at
	}
	end := len(s)
	least := func(marks map[string]int) {
		for mark, more := range marks {
			from := max(at-more, 0)
			if n := strings.Index(s[from:], mark); n >= 0 {
				end = min(end, from+n+more)
			}
		}
	}
	least(marks)
	if flow {
		least(marksFlow)
	}
	if end == len(s) && s[end-1] == ':' {
		end--
	}
	return at + len(strings.TrimRight(s[at:end], " \t"))
}

// answer is what Read tells.
type answer struct {
	text string
	to   int
	one  bool
	e    api.Errno
}

func read(s string, at, n int, flow bool) answer {
	text, to, one, e := plai.Read(s, at, n, flow)
	return answer{text, to, one, e}
}

// wantRead works Read out from the chapter's words, row by row.
func wantRead(s string, at, n int, flow bool) answer {
	if !wantBegins(s, at, flow) {
		return answer{to: at, e: api.ErrForm}
	}
	end := wantPart(s, at, flow)
	got := answer{s[at:end], end, true, api.OK}
	for {
		row, below, has := strings.Cut(s[got.to:], "\n")
		if !has || !blank(row) {
			return got
		}
		from, all := got.to+len(row)+1, strings.Split(below, "\n")
		fill := " "
		for len(all) > 1 && blank(all[0]) {
			from, all, fill = from+len(all[0])+1, all[1:], strings.TrimLeft(fill, " ")+"\n"
		}
		row = all[0]
		text := strings.TrimLeft(row, " \t")
		in := len(row) - len(strings.TrimLeft(row, " "))
		from += len(row) - len(text)
		end := wantPart(s, from, flow)
		if text == "" || text[0] == '#' || mark.MatchString(row) || in <= n || end == from {
			return got
		}
		if found := colon.FindStringSubmatchIndex(s[end:]); !flow && found != nil {
			return answer{to: end + found[2], e: api.ErrForm}
		}
		got = answer{got.text + fill + s[from:end], end, false, api.OK}
	}
}

// checkAt holds all calls against the chapter's words at one offset of s.
func checkAt(t *testing.T, s string, at int, columns ...int) {
	t.Helper()
	for _, flow := range []bool{false, true} {
		if got, want := plai.Begins(s, at, flow), wantBegins(s, at, flow); got != want {
			t.Fatalf("Begins(%q, %d, %v) = %v, want %v", s, at, flow, got, want)
		}
		if got, want := plai.Part(s, at, flow), wantPart(s, at, flow); got != want {
			t.Fatalf("Part(%q, %d, %v) = %d, want %d", s, at, flow, got, want)
		}
		for _, n := range columns {
			if got, want := read(s, at, n, flow), wantRead(s, at, n, flow); got != want {
				t.Fatalf("Read(%q, %d, %d, %v) = %+v, want %+v", s, at, n, flow, got, want)
			}
		}
	}
}

// check holds all calls against the chapter's words at every place in s and outside of it.
func check(t *testing.T, s string) {
	t.Helper()
	for at := -1; at <= len(s)+1; at++ {
		checkAt(t, s, at, -1, 0, 1)
	}
}

// every calls use with all texts of at most most of these parts.
func every(parts []string, most int, use func(string)) {
	var longer func(string, int)
	longer = func(s string, n int) {
		use(s)
		if n == most {
			return
		}
		for _, p := range parts {
			longer(s+p, n+1)
		}
	}
	longer("", 0)
}

// What a plain scalar can begin with, in general and within brackets; and what it can't.
var (
	beginnings = []string{"a", "Z", "0", "9", "~", "+", "=", "<", "/", "\\", "(", ")", "^", "$", ".", ";", "_", "é", "€", "😀", "\ufeff", "\u00a0", "\u0085", "\u2028", "\u0120", "\u0109", "\u010a", "\u012d", "\u013a", "\u0123", "\u012c", "－", "：", "＃", "\x00", "\r", "\v", "\f", "\x7f", "\x80", "\xff", "\xc3", "a b", "a: b", "a #", "a,", "<<", "=a", "...", "~\n",
		"-a", "--", "---", "--- a", "-:", "-?", "-#", "-é", "-\xff", "-\r", "-\u00a0", "-\u0120", "-'", "-&", "-1", "?a", "??", "?-", "?:", "?#", "?\u010a", ":a", "::", ":-", ":?", ":#", ":: a", "::\n", "::,", ":\"", ":\u012c", "-.", "-*", "-%", "-@", "-`", "-|", "->", "-!"}
	beginningsBlock = []string{"-,", "-[", "-]", "-{", "-}", "?,", "?[", "?]", "?{", "?}", ":,", ":[", ":]", ":{", ":}", "-,a", "-[a]", "?]x", ":{}"}
	noBeginnings    = []string{"", " ", "\t", "\n", " a", "\ta", "\na", "  ", "-", "- ", "-\t", "-\n", "- a", "-\ta", "-\na", "?", "? ", "?\t", "?\n", "? a", ":", ": ", ":\t", ":\n", ": a", ",", ",a", "[", "[a", "]", "]a", "{", "{a", "}", "}a", "#", "#a", "# a", "&", "&a", "*", "*a", "!", "!a", "!!a", "|", "|a", "|\n", ">", ">a", "'", "'a'", "''", "\"", "\"a\"", "%", "%a", "@", "@a", "`", "`a", "&\xff", "#\u0120"}
)

// 11.1: what a plain scalar can begin with, written out; also within a text, and not with what stands beside that.
func TestBegins(t *testing.T) {
	for _, c := range []struct {
		all         []string
		block, flow bool
	}{{beginnings, true, true}, {beginningsBlock, true, false}, {noBeginnings, false, false}} {
		for _, s := range c.all {
			for _, before := range []string{"", " ", "\t", "\n", "a", "-", "?", ":", "#", ",", "[", "é", "\xff", "a: "} {
				if got := plai.Begins(before+s, len(before), false); got != c.block {
					t.Errorf("Begins(%q, %d, false) = %v", before+s, len(before), got)
				}
				if got := plai.Begins(before+s, len(before), true); got != c.flow {
					t.Errorf("Begins(%q, %d, true) = %v", before+s, len(before), got)
				}
			}
			check(t, s)
		}
	}
	for _, c := range []struct {
		s  string
		at int
	}{{"", 0}, {"", -1}, {"", 1}, {"a", -1}, {"a", 1}, {"a", 2}, {"ab", math.MaxInt}, {"ab", math.MinInt}, {"-a", -2}} {
		if plai.Begins(c.s, c.at, false) || plai.Begins(c.s, c.at, true) {
			t.Errorf("Begins(%q, %d) = true, but no byte is there", c.s, c.at)
		}
	}
}

// parts are parts of plain scalars: where they begin, and where they end, in general and within brackets.
var parts = []struct {
	s               string
	at, block, flow int
}{
	{"a", 0, 1, 1}, {"abc", 0, 3, 3}, {"abc", 1, 3, 3}, {"a b c", 0, 5, 5}, {"a  b\t c", 0, 7, 7}, {"a b c", 2, 5, 5}, {"é€😀", 0, 9, 9}, {"é", 1, 2, 2}, {"\xff\xc3", 0, 2, 2}, {"\x00", 0, 1, 1}, // to the end
	{"a\nb", 0, 1, 1}, {"a\n", 0, 1, 1}, {"a\n\n", 0, 1, 1}, {"\n", 0, 0, 0}, {"\na", 0, 0, 0}, {"a\nb", 1, 1, 1}, {"a\nb", 2, 3, 3}, {"a\nb\nc", 2, 3, 3}, {"a\rb", 0, 3, 3}, {"a\u0085b\u2028c\vd\fe", 0, 12, 12}, {"a\u010ab", 0, 4, 4}, // one row, ended by LF alone
	{"a ", 0, 1, 1}, {"a  \t ", 0, 1, 1}, {"a \n", 0, 1, 1}, {"a \t\nb", 0, 1, 1}, {"a b \t", 0, 3, 3}, {"a\u00a0", 0, 3, 3}, {"a \u00a0", 0, 4, 4}, {"a\u0120", 0, 3, 3}, {"a\u0109", 0, 3, 3}, {"a\r", 0, 2, 2}, {"a \r", 0, 3, 3}, // White ahead of the end
	{" ", 0, 0, 0}, {"  ", 0, 0, 0}, {"  ", 1, 1, 1}, {"a  ", 1, 1, 1}, {"a  ", 2, 2, 2}, {" \n", 0, 0, 0}, {"\t\t#", 0, 0, 0}, {"  : ", 0, 0, 0}, {"  : ", 1, 1, 1}, // but not ahead of the beginning
	{"  a", 0, 3, 3}, {"\ta ", 0, 2, 2}, {" a", 1, 2, 2}, // White at the beginning
	{"a #", 0, 1, 1}, {"a # b", 0, 1, 1}, {"a #b", 0, 1, 1}, {"a\t#b", 0, 1, 1}, {"a  \t #b", 0, 1, 1}, {"a b #c #d", 0, 3, 3}, {"a ##", 0, 1, 1}, {" #", 0, 0, 0}, {" #x", 1, 1, 1}, {"\t#x", 1, 1, 1}, {"a #: b", 0, 1, 1}, // a # behind White
	{"a#", 0, 2, 2}, {"a#b", 0, 3, 3}, {"a#b #c", 0, 3, 3}, {"a##", 0, 3, 3}, {"#", 0, 1, 1}, {"#a", 0, 2, 2}, {"a#b", 1, 3, 3}, {"\n#a", 1, 3, 3}, {"a\n#b", 0, 1, 1}, {"a\u00a0#b", 0, 5, 5}, {"a\u0120#b", 0, 5, 5}, {"a\u0109#", 0, 4, 4}, {"é#", 0, 3, 3}, {"a\r#b", 0, 4, 4}, {"a \u0123", 0, 4, 4}, {"a ＃ b", 0, 7, 7}, {"a:#b", 0, 4, 4}, {"##", 1, 2, 2}, {"a -#", 0, 4, 4}, // and one that is not
	{"a: b", 0, 1, 1}, {"a:", 0, 1, 1}, {"a:\tb", 0, 1, 1}, {"a:\nb", 0, 1, 1}, {"a: ", 0, 1, 1}, {"a : b", 0, 1, 1}, {"a \t:", 0, 1, 1}, {"a b: c: d", 0, 3, 3}, {":", 0, 0, 0}, {": a", 0, 0, 0}, {":\n", 0, 0, 0}, {"a\n: b", 0, 1, 1}, {"a\n: b", 2, 2, 2}, {"a:: b", 0, 2, 2}, {"a::", 0, 2, 2}, {"::", 0, 1, 1}, {":: ", 0, 1, 1}, {"é: x", 0, 2, 2}, {"a#: b", 0, 2, 2}, {"-: b", 0, 1, 1}, {"a: #b", 0, 1, 1}, // a : ahead of White or an end
	{"a:b", 0, 3, 3}, {"a:b:c", 0, 5, 5}, {"a:b: c", 0, 3, 3}, {":a", 0, 2, 2}, {"a ::b", 0, 5, 5}, {"http://a.b:80/c?d#e", 0, 19, 19}, {"a:\u00a0b", 0, 5, 5}, {"a:\u0120b", 0, 5, 5}, {"a:\u010ab", 0, 5, 5}, {"a:\u012cb", 0, 5, 5}, {"a:\r", 0, 3, 3}, {"a:é", 0, 4, 4}, {"a:\xff", 0, 3, 3}, {"a：", 0, 4, 4}, {"a\u013a b", 0, 5, 5}, {"a:-", 0, 3, 3}, {"a:\"b\"", 0, 5, 5}, // and one that is not
	{"a,b", 0, 3, 1}, {"a, b", 0, 4, 1}, {"a ,b", 0, 4, 1}, {"a \t,b", 0, 5, 1}, {",", 0, 1, 0}, {",a", 0, 2, 0}, {" ,", 0, 2, 0}, {"a[b", 0, 3, 1}, {"a]b", 0, 3, 1}, {"a{b", 0, 3, 1}, {"a}b", 0, 3, 1}, {"a b]", 0, 4, 3}, {"a ]", 0, 3, 1}, {"[a]", 0, 3, 0}, {"[a]", 1, 3, 2}, {"{a}", 1, 3, 2}, {"a[0]", 0, 4, 1}, {"é,", 0, 3, 2}, {"a\u012cb", 0, 4, 4}, {"a，b", 0, 5, 5}, {"a\u015b\u015d\u017b\u017d", 0, 9, 9}, // Flow bytes
	{"a:,b", 0, 4, 1}, {"a:[b", 0, 4, 1}, {"a:]b", 0, 4, 1}, {"a:{b", 0, 4, 1}, {"a:}b", 0, 4, 1}, {"a::,b", 0, 5, 2}, {":,", 0, 2, 0}, {"a :]", 0, 4, 1}, {"a:b,c", 0, 5, 3}, {"a,b: c", 0, 3, 1}, {"a: b,c", 0, 1, 1}, {"a, #", 0, 2, 1}, {"a #,", 0, 1, 1}, {"a:b :,", 0, 6, 3}, {"a:\u012c", 0, 4, 4}, // a : ahead of one
	{"a - b", 0, 5, 5}, {"a ? b", 0, 5, 5}, {"a & b *c !d |e >f 'g \"h %i @j `k", 0, 32, 32}, {"- a", 0, 3, 3}, {"? a", 0, 3, 3}, {"'a'", 0, 3, 3}, {"%a", 0, 2, 2}, {"--- a", 0, 5, 5}, {"...", 0, 3, 3}, // other indicators end nothing, nor is it asked whether a scalar begins
}

// 11.2: where a part ends, written out; also with rows above and below.
func TestPart(t *testing.T) {
	for _, c := range parts {
		for _, before := range []string{"", "x\n", "\n\n", "- ", "é", "x: [", "# x\n \n"} {
			if before != "" && c.s[0] == '#' {
				continue // what stands ahead of a # counts
			}
			for _, below := range []string{"", "\n", "\nx", "\n# x: y, z", " \n", "\t"} {
				s, at := before+c.s+below, len(before)+c.at
				if got := plai.Part(s, at, false); got != len(before)+c.block {
					t.Errorf("Part(%q, %d, false) = %d, want %d", s, at, got, len(before)+c.block)
				}
				if got := plai.Part(s, at, true); got != len(before)+c.flow {
					t.Errorf("Part(%q, %d, true) = %d, want %d", s, at, got, len(before)+c.flow)
				}
			}
		}
		check(t, c.s)
	}
	for _, c := range []struct {
		s  string
		at int
	}{{"", 0}, {"", -1}, {"", 1}, {"a", 1}, {"a", 2}, {"a", -1}, {"a ", 2}, {" :", 2}, {"a\n", 2}, {"ab", math.MaxInt}, {"ab", math.MinInt}} {
		if block, flow := plai.Part(c.s, c.at, false), plai.Part(c.s, c.at, true); block != c.at || flow != c.at {
			t.Errorf("Part(%q, %d) = %d, %d, but no byte is there", c.s, c.at, block, flow)
		}
	}
}

// scalars are plain scalars, each from the beginning of its text, within a collection of the column n.
var scalars = []struct {
	s    string
	n    int
	flow bool
	answer
}{
	{"a b # c", -1, false, answer{"a b", 3, true, 0}}, {"a\n b", 0, false, answer{"a b", 4, false, 0}}, // the chapter's examples
	{"a", -1, false, answer{"a", 1, true, 0}}, {"a", 0, true, answer{"a", 1, true, 0}}, {"a \t", 5, false, answer{"a", 1, true, 0}}, {"a  b\t c ", 0, false, answer{"a  b\t c", 7, true, 0}}, {"a: b", 0, false, answer{"a", 1, true, 0}}, {"a: b", 0, true, answer{"a", 1, true, 0}}, {"a:", -1, false, answer{"a", 1, true, 0}}, {"a : b", 0, false, answer{"a", 1, true, 0}}, {"a, b", -1, false, answer{"a, b", 4, true, 0}}, {"a, b", -1, true, answer{"a", 1, true, 0}}, {"-1", 0, true, answer{"-1", 2, true, 0}}, {"::", 0, false, answer{":", 1, true, 0}}, {"é\xff", 0, false, answer{"é\xff", 3, true, 0}}, {"--- a", 0, false, answer{"--- a", 5, true, 0}}, {"-,", 0, false, answer{"-,", 2, true, 0}}, // one row
	{"a\nb", -1, false, answer{"a b", 3, false, 0}}, {"a\n b\n  c\n d", 0, false, answer{"a b c d", 11, false, 0}}, {"a \t\n \tb \t\n c", 0, false, answer{"a b c", 12, false, 0}}, {"a\n b\n", 0, false, answer{"a b", 4, false, 0}}, {"a b\n c d ", 0, false, answer{"a b c d", 8, false, 0}}, {"é\n é", 0, false, answer{"é é", 6, false, 0}}, // several
	{"a\nb", 0, false, answer{"a", 1, true, 0}}, {"a\n b", 1, false, answer{"a", 1, true, 0}}, {"a\n  b", 1, false, answer{"a b", 5, false, 0}}, {"a\n  b\n c", 1, false, answer{"a b", 5, false, 0}}, {"a\n    b", 4, false, answer{"a", 1, true, 0}}, {"a\n    b", 3, false, answer{"a b", 7, false, 0}}, {"a\nb", -2, false, answer{"a b", 3, false, 0}}, {"a\n  b\n c\n  d", 0, false, answer{"a b c d", 12, false, 0}}, {"a\n b", 1, true, answer{"a", 1, true, 0}}, {"a\n b", 0, true, answer{"a b", 4, false, 0}}, // how far in
	{"a\n\tb", -1, false, answer{"a b", 4, false, 0}}, {"a\n\tb", 0, false, answer{"a", 1, true, 0}}, {"a\n \tb", 0, false, answer{"a b", 5, false, 0}}, {"a\n \t b", 1, false, answer{"a", 1, true, 0}}, {"a\n\t b", 0, true, answer{"a", 1, true, 0}}, // by blanks, not by tabs
	{"a\n\n b", 0, false, answer{"a\nb", 5, false, 0}}, {"a\n\n\n b", 0, false, answer{"a\n\nb", 6, false, 0}}, {"a\n \n\t\n \t \n b", 0, false, answer{"a\n\n\nb", 12, false, 0}}, {"a\n\n b\n c\n\n\n d", 0, false, answer{"a\nb c\n\nd", 13, false, 0}}, {"a \n\n  b  \n c", 0, true, answer{"a\nb c", 12, false, 0}}, {"a\n\t\n\tb", -1, false, answer{"a\nb", 6, false, 0}}, {"a\n        \n b", 5, false, answer{"a", 1, true, 0}}, {"a\n\nb", -1, false, answer{"a\nb", 4, false, 0}}, {"\v\n\n \v", 0, false, answer{"\v\n\v", 5, false, 0}}, // blank rows, however far in they are
	{"a\n", 0, false, answer{"a", 1, true, 0}}, {"a\n\n", -1, false, answer{"a", 1, true, 0}}, {"a\n ", 0, false, answer{"a", 1, true, 0}}, {"a\n\n \t\n\t", -1, true, answer{"a", 1, true, 0}}, {"a\n b\n\n ", 0, false, answer{"a b", 4, false, 0}}, {"a \n \nb", 0, false, answer{"a", 1, true, 0}}, // behind which nothing goes on
	{"a #\n b", -1, false, answer{"a", 1, true, 0}}, {"a # c\n b", -1, true, answer{"a", 1, true, 0}}, {"a\n b #c: d", 0, false, answer{"a b", 4, false, 0}}, {"a\n b # c\n d", 0, false, answer{"a b", 4, false, 0}}, {"a: b\n c", -1, false, answer{"a", 1, true, 0}}, {"a:\n b", -1, false, answer{"a", 1, true, 0}}, {"a:\n b", -1, true, answer{"a", 1, true, 0}}, {"a ,\n b", -1, true, answer{"a", 1, true, 0}}, {"a ,\n b", -1, false, answer{"a , b", 6, false, 0}}, {"a]\n b", 0, true, answer{"a", 1, true, 0}}, // not White alone behind a part
	{"a\n# c", -1, false, answer{"a", 1, true, 0}}, {"a\n # c", 0, false, answer{"a", 1, true, 0}}, {"a\n #c\n b", 0, false, answer{"a", 1, true, 0}}, {"a\n b\n\t#\n c", -1, false, answer{"a b", 4, false, 0}}, {"a\n\n#\n\nb", -1, true, answer{"a", 1, true, 0}}, {"a\n b#\n c#d", 0, false, answer{"a b# c#d", 10, false, 0}}, // a row with a comment alone
	{"a\n---", -1, false, answer{"a", 1, true, 0}}, {"a\n--- b", -1, false, answer{"a", 1, true, 0}}, {"a\n...", -1, true, answer{"a", 1, true, 0}}, {"a\n...\tb", -1, true, answer{"a", 1, true, 0}}, {"a\n\n---\n", -1, false, answer{"a", 1, true, 0}}, {"a\n--- ", math.MinInt, false, answer{"a", 1, true, 0}}, {"a\n---b", -1, false, answer{"a ---b", 6, false, 0}}, {"a\n ---", 0, false, answer{"a ---", 6, false, 0}}, {"a\n ... b", -1, true, answer{"a ... b", 8, false, 0}}, {"a\n....", -1, false, answer{"a ....", 6, false, 0}}, {"a\n\t---", -1, false, answer{"a ---", 6, false, 0}}, {"a\n--\n-", -1, false, answer{"a -- -", 6, false, 0}}, // a mark
	{"a\n - b", 0, false, answer{"a - b", 6, false, 0}}, {"a\n -", 0, false, answer{"a -", 4, false, 0}}, {"a\n ? b", 0, true, answer{"a ? b", 6, false, 0}}, {"a\n &b *c", 0, false, answer{"a &b *c", 8, false, 0}}, {"a\n 'b'", 0, true, answer{"a 'b'", 6, false, 0}}, {"a\n |\n >", 0, false, answer{"a | >", 7, false, 0}}, {"a\n %b\n@c\n`d", -1, false, answer{"a %b @c `d", 11, false, 0}}, {"a\n [b", 0, false, answer{"a [b", 5, false, 0}}, {"a\n !b", 0, true, answer{"a !b", 5, false, 0}}, {"a\n, b", -1, false, answer{"a , b", 5, false, 0}}, // a further part may begin with anything
	{"a\n :", 0, false, answer{"a", 1, true, 0}}, {"a\n : b", 0, false, answer{"a", 1, true, 0}}, {"a\n b\n : c", 0, false, answer{"a b", 4, false, 0}}, {"a\n\n :\t", 0, false, answer{"a", 1, true, 0}}, {"a\n :b", 0, false, answer{"a :b", 5, false, 0}}, {"a\n : b", 0, true, answer{"a", 1, true, 0}}, {"a\n :,", 0, true, answer{"a", 1, true, 0}}, {"a\n :,", 0, false, answer{"a :,", 5, false, 0}}, {"a\n ]", 0, true, answer{"a", 1, true, 0}}, {"a\n , b", -1, true, answer{"a", 1, true, 0}}, {"a\n\n  }", -1, true, answer{"a", 1, true, 0}}, {"a\n b\n {c", 0, true, answer{"a b", 4, false, 0}}, {"a\n :\n b", 0, false, answer{"a", 1, true, 0}}, // but not be empty
	{"a\n b: c", 0, true, answer{"a b", 4, false, 0}}, {"a\n b :\n c", 0, true, answer{"a b", 4, false, 0}}, {"a\n b:,", 0, true, answer{"a b", 4, false, 0}}, {"a\n b, c: d", 0, true, answer{"a b", 4, false, 0}}, {"a\n b:,", 0, false, answer{"a b:,", 6, false, 0}}, {"a\n b:c", 0, false, answer{"a b:c", 6, false, 0}}, {"a\n b #:", 0, false, answer{"a b", 4, false, 0}}, {"a\n b\n: c", 0, false, answer{"a b", 4, false, 0}}, {"a\nb: c", 0, false, answer{"a", 1, true, 0}}, {"a\n# b: c", -1, false, answer{"a", 1, true, 0}}, {"a\n b\u00a0\u013a c", 0, false, answer{"a b\u00a0\u013a c", 10, false, 0}}, // a : behind a further part that is no error
}

// 11.3: the text, where it ends, and whether it is of one part, written out; also within a text.
func TestRead(t *testing.T) {
	for _, c := range scalars {
		for _, before := range []string{"", " ", "x: ", "- ", "- - ", "[é, ", "\n", "--- ", "# x\n", "a\n b\n  "} {
			got := read(before+c.s, len(before), c.n, c.flow)
			got.to -= len(before)
			if got != c.answer {
				t.Errorf("Read(%q, %d, %d, %v) = %+v, less what stands ahead, want %+v", before+c.s, len(before), c.n, c.flow, got, c.answer)
			}
		}
		check(t, c.s)
		checkAt(t, c.s, 0, c.n)
	}
}

// 11.3: where no plain scalar begins, at any column, and a colon that follows a further part; there is nothing beside the code and the offset.
func TestReadErrForm(t *testing.T) {
	for _, n := range []int{-1, 0, 3, math.MinInt, math.MaxInt} {
		for _, s := range noBeginnings {
			for _, flow := range []bool{false, true} {
				if got, want := read("x"+s, 1, n, flow), (answer{to: 1, e: api.ErrForm}); got != want {
					t.Errorf("Read(%q, 1, %d, %v) = %+v, want %+v", "x"+s, n, flow, got, want)
				}
			}
		}
		for _, s := range beginningsBlock {
			if got, want := read(s, 0, n, true), (answer{e: api.ErrForm}); got != want {
				t.Errorf("Read(%q, 0, %d, true) = %+v, want %+v", s, n, got, want)
			}
		}
		for _, at := range []int{-3, -1, 2, 3, 7, math.MinInt, math.MaxInt} {
			for _, flow := range []bool{false, true} {
				if got, want := read("ab", at, n, flow), (answer{to: at, e: api.ErrForm}); got != want {
					t.Errorf("Read(\"ab\", %d, %d, %v) = %+v, want %+v", at, n, flow, got, want)
				}
			}
		}
	}
	for _, c := range []struct {
		s     string
		n, to int
	}{
		{"a\n b: c", 0, 4}, // the chapter's example
		{"a\n b:", 0, 4}, {"a\n b:\n c", 0, 4}, {"a\n b:\tc", 0, 4}, {"a\nb: c", -1, 3}, {"a\n b : c", 0, 5}, {"a\n b \t :", 0, 7}, {"a\n b\t: c", 0, 5}, {"a\n b: #c", 0, 4},
		{"a\n b\n c: d", 0, 7}, {"a\n\n b: c", 0, 5}, {"a\n \t\n\n b\n\n  c  : d\n e: f", 0, 15}, {"a\n b:: c", 0, 5}, {"a\n b:c: d", 0, 6}, {"a\n b#: c", 0, 5}, {"a\n - b: c", 0, 6}, {"a\n -: c", 0, 4}, {"a\n 'b': c", 0, 6}, {"a\n ---: b", 0, 6}, {"a\n---: b", -1, 5}, {"a\n b, [c]: d", 0, 9}, {"a\n é: b", 0, 5}, {"a\n \xff: b", 0, 4}, {"a\n :: b", 0, 4}, {"a\n b: c: d", 0, 4}, {"a\n \tb: c", 0, 5}, {"a\n  b: c", -5, 5}, {"a\n    b: c", 3, 7},
	} {
		for _, before := range []string{"", "x: ", "- ", "é\n"} {
			if got, want := read(before+c.s, len(before), c.n, false), (answer{to: len(before) + c.to, e: api.ErrForm}); got != want {
				t.Errorf("Read(%q, %d, %d, false) = %+v, want %+v", before+c.s, len(before), c.n, got, want)
			}
			if got := read(before+c.s, len(before), c.n, true); got.e != api.OK {
				t.Errorf("Read(%q, %d, %d, true) = %+v, want no error", before+c.s, len(before), c.n, got)
			}
		}
		check(t, c.s)
	}
}

// 11.1 to 11.3, 11.5: every text of one and of two bytes, alone and where the rows of a scalar begin and end.
func TestEveryPairOfBytes(t *testing.T) {
	for a := range 0x100 {
		check(t, string([]byte{byte(a)}))
		for b := range 0x100 {
			pair := string([]byte{byte(a), byte(b)})
			checkAt(t, pair, 0, 0)
			checkAt(t, pair, 1, 0)
			checkAt(t, "a"+pair, 0, 0)
			checkAt(t, "a "+pair+"b", 0, -1)
			checkAt(t, "a\n "+pair, 0, 0)
			checkAt(t, "a\n b"+pair, 0, 0)
			checkAt(t, "a"+pair+" b\n", 0, 0)
			checkAt(t, "a\n"+pair+"b", 0, -1)
		}
	}
}

// 11.1 to 11.3, 11.5: every text of up to so many of those parts of which scalars, and what ends them, are made.
func TestEveryText(t *testing.T) {
	every([]string{"a", " ", "\n", ":"}, 8, func(s string) { checkAt(t, s, 0, -1, 0) })
	every([]string{"a", " ", "\n", ":", "#"}, 6, func(s string) { check(t, s) })
	every([]string{"a", " ", "\t", "\n", ":", "#", "-", ",", "---"}, 4, func(s string) { check(t, s) })
	every([]string{" ", "\t", "\n", "b", ":", "#", "]", "...", "-"}, 5, func(s string) { checkAt(t, "a\n"+s, 0, -1, 0) })
	every([]string{"a", " ", "\t", "\n", "\n ", "\n  ", "\n\n", "\n\t", ": ", ":", " #", "#", "- ", "?", ",", "[", "}", "---", "...", "'", "é", "\xff", "\r", "\u0120", "\u010a", "\u012c"}, 3, func(s string) { check(t, s) })
	every([]string{"\n", "\n ", "\n  ", "\n   ", " b", "c ", ": ", " #"}, 5, func(s string) { checkAt(t, "a"+s, 0, -1, 0, 1, 2, 3) })
}

// 11.1 to 11.3, 11.5: every byte, and runes whose last byte could stand there, ahead of, within and behind each of the samples, and in the place of each of their bytes; and each sample cut, and without one of its bytes.
func TestEveryByte(t *testing.T) {
	var others []string
	for i := range 0x100 {
		others = append(others, string([]byte{byte(i)}), string(rune(0x100+i)))
	}
	use := func(s string, n int) {
		checkAt(t, s, 0, n)
		checkAt(t, s, 1, n)
	}
	for _, c := range scalars {
		for at := range len(c.s) + 1 {
			behind := c.s[min(at+1, len(c.s)):]
			use(c.s[:at], c.n)
			use(c.s[:at]+behind, c.n)
			checkAt(t, c.s, at, c.n)
			for _, o := range others {
				use(c.s[:at]+o+c.s[at:], c.n)
				use(c.s[:at]+o+behind, c.n)
			}
		}
	}
	for _, c := range parts {
		for at := range len(c.s) + 1 {
			for _, o := range others {
				checkAt(t, c.s[:at]+o+c.s[at:], c.at, 0)
				checkAt(t, c.s[:at]+o+c.s[min(at+1, len(c.s)):], c.at, 0)
			}
		}
	}
}

// 11.3, 11.5: columns that are far out.
func TestFarColumns(t *testing.T) {
	for _, c := range scalars {
		checkAt(t, c.s, 0, math.MinInt, math.MinInt+1, math.MinInt32, -2, 2, 3, 4, math.MaxInt32, math.MaxInt-1, math.MaxInt)
	}
}

// 11.1 to 11.3: the calls agree: Read answers an error at at exactly if no scalar begins there, and what has one part is what Part tells.
func TestAgree(t *testing.T) {
	every([]string{"a", " ", "\n", "\n ", ":", "-", " #", ",", "\xff"}, 5, func(s string) {
		for _, flow := range []bool{false, true} {
			for at := -1; at <= len(s)+1; at++ {
				got, begins, part := read(s, at, 0, flow), plai.Begins(s, at, flow), plai.Part(s, at, flow)
				if (got.e == api.OK || got.to != at) != begins {
					t.Fatalf("Begins(%q, %d, %v) = %v, but Read answers %+v", s, at, flow, begins, got)
				}
				if begins && (part == at || part > got.to || got.one && (part != got.to || got.text != s[at:part])) {
					t.Fatalf("Part(%q, %d, %v) = %d, but Read answers %+v", s, at, flow, part, got)
				}
			}
		}
	})
}

// 11.4 (W1): at every place of every text there is a scalar, or ErrForm at a place from there on, with nothing beside it.
func TestEitherOr(t *testing.T) {
	every([]string{"a", " ", "\t", "\n", ":", "#", "-", ",", "]"}, 5, func(s string) {
		for at := range len(s) + 1 {
			for _, flow := range []bool{false, true} {
				got := read(s, at, 0, flow)
				fine := got.text != "" && at < got.to && got.to <= len(s) && strings.Trim(s[got.to-1:got.to], " \t\n") != ""
				wrong := got.e == api.ErrForm && got.text == "" && !got.one && (got.to == at || at < got.to && s[got.to] == ':')
				if (got.e == api.OK) != fine || (got.e != api.OK) != wrong {
					t.Fatalf("Read(%q, %d, 0, %v) = %+v", s, at, flow, got)
				}
			}
		}
	})
}

// 11.4 (W2): a text that was read is read as the same one when it is written with one row for each of its lines, and blank rows between, ahead of what it was read ahead of. Ahead of anything else, too, that ends it, but for those that are texts only ahead of a colon: what ends with one, and an indicator alone.
func TestKeepsTexts(t *testing.T) {
	every([]string{"a", " ", "\t", "\n ", ":", "#", "-", "?", ",", "\u00a0", "---"}, 5, func(s string) {
		for _, flow := range []bool{false, true} {
			first := read(s, 0, 0, flow)
			if first.e != api.OK {
				continue
			}
			for _, indent := range []string{" ", "    "} {
				behind := []string{s[first.to:]}
				if !strings.HasSuffix(first.text, ":") && first.text != "-" && first.text != "?" {
					behind = append(behind, "", "\n", " #c", "\n#c", "\n\n"+indent+"# c", "\nb", "\nb: c", "\n"+indent+": b", " \t\n\n")
					if flow {
						behind = append(behind, ", b", "]", " }", "\n"+indent+"]", ": b", " :,", ":")
					}
				}
				written := lineFeeds.ReplaceAllString(first.text, "\n$0"+indent)
				want := answer{first.text, len(written), !strings.Contains(first.text, "\n"), api.OK}
				for _, b := range behind {
					if got := read(written+b, 0, len(indent)-1, flow); got != want {
						t.Fatalf("Read(%q, 0, %d, %v) = %+v, want %+v, since Read(%q, 0, 0, %v) = %+v", written+b, len(indent)-1, flow, got, want, s, flow, first)
					}
				}
			}
		}
	})
}

// 11.1 to 11.3, 11.5: long rows, and many of them, end.
func TestLong(t *testing.T) {
	const n = 1 << 20
	a, blanks, feeds := strings.Repeat("a", n), strings.Repeat(" ", n), strings.Repeat("\n", n)
	for _, c := range []struct {
		name, s string
		n       int
		flow    bool
		want    answer
	}{
		{"a long row", a + ": b", 0, false, answer{a, n, true, 0}},
		{"a long row within brackets", a + ", b", 0, true, answer{a, n, true, 0}},
		{"a row of many #", "a" + strings.Repeat("#", n) + blanks + "# b", 0, false, answer{"a" + strings.Repeat("#", n), n + 1, true, 0}},
		{"a row of many :", strings.Repeat(":", n) + " b", 0, false, answer{strings.Repeat(":", n-1), n - 1, true, 0}},
		{"a row of runes", strings.Repeat("é\xff", n), 0, true, answer{strings.Repeat("é\xff", n), 3 * n, true, 0}},
		{"White", "a" + blanks + "b" + blanks, 0, false, answer{"a" + blanks + "b", n + 2, true, 0}},
		{"White and a colon", "a" + blanks + ": b", 0, false, answer{"a", 1, true, 0}},
		{"many rows", strings.Repeat("a\n", n), -1, false, answer{strings.TrimRight(strings.Repeat("a ", n), " "), 2*n - 1, false, 0}},
		{"many rows and a colon", strings.Repeat("a\n", n) + "b: c", -1, false, answer{to: 2*n + 1, e: api.ErrForm}},
		{"many rows and a mark", strings.Repeat("a\n", n) + "---\n", -1, true, answer{strings.TrimRight(strings.Repeat("a ", n), " "), 2*n - 1, false, 0}},
		{"many blank rows", "a" + feeds + " b", 0, false, answer{"a" + feeds[1:] + "b", n + 3, false, 0}},
		{"many blank rows at the end", "a" + feeds, -1, false, answer{"a", 1, true, 0}},
		{"many blank rows between many rows", strings.Repeat("a\n\n", n), -1, false, answer{strings.TrimRight(strings.Repeat("a\n", n), "\n"), 3*n - 2, false, 0}},
		{"rows of White", "a" + strings.Repeat("\n \t", n) + "b", 0, false, answer{"a" + feeds[1:] + "b", 3*n + 2, false, 0}},
		{"far in", "a\n" + blanks + "b", n - 1, false, answer{"a b", n + 3, false, 0}},
		{"not far enough in", "a\n" + blanks + "b", n, false, answer{"a", 1, true, 0}},
	} {
		if got := read(c.s, 0, c.n, c.flow); got != c.want {
			t.Errorf("%s: %d bytes, %d, %v, %d, want %d, %d, %v, %d", c.name, len(got.text), got.to, got.one, got.e, len(c.want.text), c.want.to, c.want.one, c.want.e)
		}
	}
}

// 11.3: the text has memory of its own, which it shares with no argument.
func TestOwnMemory(t *testing.T) {
	for _, c := range scalars {
		s := strings.Clone(c.s)
		if got := read(s, 0, c.n, c.flow); shares(got.text, s) {
			t.Errorf("Read(%q, 0, %d, %v) = %q, which is a piece of its argument", s, c.n, c.flow, got.text)
		}
	}
}

// shares reports whether s begins within the memory of t.
func shares(s, t string) bool {
	at, from := uintptr(unsafe.Pointer(unsafe.StringData(s))), uintptr(unsafe.Pointer(unsafe.StringData(t)))
	return s != "" && from <= at && at < from+uintptr(len(t))
}
