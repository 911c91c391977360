package stre_test

import (
	"regexp"
	"slices"
	"strconv"
	"strings"
	"testing"
	"unsafe"

	"bosket/api"
	"bosket/stre"
)

// same reports whether two nodes are, with all that is in them.
func same(a, b api.Node) bool {
	return a.Kind == b.Kind && a.Style == b.Style && a.At == b.At && a.Blank == b.Blank && a.Anchor == b.Anchor && a.Tag == b.Tag && a.Text == b.Text && a.HasTrail == b.HasTrail && a.Trail == b.Trail &&
		slices.Equal(a.Lead, b.Lead) && slices.Equal(a.Foot, b.Foot) && slices.EqualFunc(a.Kids, b.Kids, same)
}

func sameDoc(a, b api.Doc) bool {
	return slices.Equal(a.Head, b.Head) && slices.Equal(a.Dirs, b.Dirs) && a.Mark == b.Mark && same(a.Root, b.Root) && slices.Equal(a.Foot, b.Foot)
}

func sameStream(a, b api.Stream) bool {
	return slices.EqualFunc(a.Docs, b.Docs, sameDoc) && slices.Equal(a.Tail, b.Tail)
}

func list(notes []api.Comment) string {
	var all []string
	for _, c := range notes {
		all = append(all, "#"+c.Text+"/"+strconv.Itoa(c.Blank))
	}
	return strings.Join(all, " ")
}

// node tells a node: its comments and the blank rows above it, its properties, its contents, and the comment behind it. Collections stand in (- ), (: ), [ ] and { }.
func node(n api.Node) string {
	var all []string
	if len(n.Lead) > 0 {
		all = append(all, list(n.Lead))
	}
	if n.Blank != 0 {
		all = append(all, "^"+strconv.Itoa(n.Blank))
	}
	if n.Anchor != "" {
		all = append(all, "&"+n.Anchor)
	}
	if n.Tag != "" {
		all = append(all, n.Tag)
	}
	all = append(all, contents(n))
	if n.HasTrail {
		all = append(all, "!#"+n.Trail)
	}
	return strings.Join(all, " ")
}

func contents(n api.Node) string {
	switch n.Kind {
	case 0:
		return "nothing"
	case api.KAlias:
		return "*" + n.Text
	case api.KScalar:
		return []string{"", "p", "s", "d", "l", "f"}[n.Style] + strconv.Quote(n.Text)
	}
	var all []string
	for _, kid := range n.Kids {
		all = append(all, node(kid))
	}
	if len(n.Foot) > 0 {
		all = append(all, ";"+list(n.Foot))
	}
	in := strings.Join(all, " ")
	switch {
	case n.Style == api.SBlock:
		return "(" + []string{"-", ":"}[n.Kind-api.KSeq] + " " + in + ")"
	case n.Kind == api.KSeq:
		return "[" + in + "]"
	}
	return "{" + in + "}"
}

// show tells a stream, but no places: of each document @ and the comments ahead, the directives, its mark, its root, and ; and the comments behind; and what stands behind all, behind a $.
func show(stream api.Stream) string {
	var all []string
	for _, d := range stream.Docs {
		var doc []string
		if len(d.Head) > 0 {
			doc = append(doc, "@"+list(d.Head))
		}
		doc = append(doc, d.Dirs...)
		if d.Mark {
			doc = append(doc, "---")
		}
		doc = append(doc, node(d.Root))
		if len(d.Foot) > 0 {
			doc = append(doc, ";"+list(d.Foot))
		}
		all = append(all, strings.Join(doc, " "))
	}
	if len(stream.Tail) > 0 {
		all = append(all, "$"+list(stream.Tail))
	}
	return strings.Join(all, " | ")
}

// streams are texts, and what they are.
var streams = []struct{ s, want string }{
	// the chapter's example
	{"a\n...\n# c\n", `p"a" | $# c/0`},
	// no document at all
	{"", ""}, {"\n", ""}, {" ", ""}, {" \n\t\n  \n", ""}, {"\t", ""}, {"...", ""}, {"...\n", ""}, {"... ", ""}, {"...\t \n...\n\n...", ""},
	// comments alone
	{"#", "$#/0"}, {"#c", "$#c/0"}, {"# c \t\n", "$# c/0"}, {"\n\n#c", "$#c/2"}, {" #c\n\t#d\n\t\n\n #e", "$#c/0 #d/0 #e/2"}, {"#c\n\n\n", "$#c/0"}, {"##c # d#", "$##c # d#/0"},
	// a document without a mark
	{"a", `p"a"`}, {"\n\n a\n\n", `p"a"`}, {"a\nb\n", `p"a b"`}, {"- a\n- b", `(- p"a" p"b")`}, {"a: b\nc:\n- d", `(: p"a" p"b" p"c" (- p"d"))`}, {"[a,\n b]", `[p"a" p"b"]`}, {"|\n a\n", `l"a\n"`}, {"*a", `*a`}, {"&a !b", `&a !b p""`}, {"--", `p"--"`}, {"..", `p".."`}, {"---a", `p"---a"`}, {"...a", `p"...a"`}, {" ---", `p"---"`}, {" ...", `p"..."`}, {" --- a", `p"--- a"`}, {" ... #a", `p"..." !#a`}, {"....", `p"...."`}, {"----", `p"----"`}, {"a%", `p"a%"`}, {"- a %b", `(- p"a %b")`}, {"...#", `p"...#"`}, {"---#", `p"---#"`}, {"-- -", `p"-- -"`}, {". ..", `p". .."`},
	// its comments
	{"#c\na", `#c/0 p"a"`}, {"\n#c\n\n#d\n a #e\n\n#f", `#c/1 #d/1 p"a" !#e ;#f/1`}, {"- a #c\n#d\n- b\n#e\n", `(- p"a" !#c #d/0 p"b") ;#e/0`}, {"#c\n- a", `#c/0 (- p"a")`}, {"a\n\n\n#c\n", `p"a" ;#c/2`}, {"&a #c\n#d\nb", `#c/0 #d/0 &a p"b"`},
	// a document with a mark
	{"---", `--- p""`}, {"---\n", `--- p""`}, {"--- ", `--- p""`}, {"---\t\n\n", `--- p""`}, {"\n\n---\n", `--- p""`}, {"--- a", `--- p"a"`}, {"---\ta", `--- p"a"`}, {"---\na", `--- p"a"`}, {"---\n\n - a", `--- (- ^1 p"a")`}, {"---\na: b", `--- (: p"a" p"b")`}, {"--- &a\n- b", `--- &a (- p"b")`}, {"--- |\n a", `--- l"a"`}, {"--- >\na\nb", `--- f"a b"`}, {"--- [a]\n", `--- [p"a"]`}, {"--- ---", `--- p"---"`}, {"--- ...", `--- p"..."`}, {"---\n a\n %b", `--- p"a %b"`},
	// its comments
	{"--- #c", `--- p"" !#c`}, {"--- #c\na", `--- #c/0 p"a"`}, {"#c\n---\n#d\n", `@#c/0 --- p"" ;#d/0`}, {"#c\n\n #d\n\n--- #e\n\n#f\na #g\n#h\n", `@#c/0 #d/1 --- #e/0 #f/1 p"a" !#g ;#h/0`}, {"\t#c\n---", `@#c/0 --- p""`}, {"--- a #c", `--- p"a" !#c`}, {"--- a#c", `--- p"a#c"`},
	// documents one behind the other
	{"---\n---\n", `--- p"" | --- p""`}, {"--- a\n--- b", `--- p"a" | --- p"b"`}, {"a\n--- b\n", `p"a" | --- p"b"`}, {"a\n---\n- b\n---\nc: d", `p"a" | --- (- p"b") | --- (: p"c" p"d")`}, {"a\n...\nb", `p"a" | p"b"`}, {"a\n...\n---\nb\n...\n", `p"a" | --- p"b"`}, {"a\n...\n...\n\n...\nb\n", `p"a" | p"b"`}, {"...\na", `p"a"`}, {"---\n...\na\n...\n---", `--- p"" | p"a" | --- p""`}, {"---\n...\n---\n...", `--- p"" | --- p""`}, {"|\n a\n---\n|\n b\n...\n>\n c", `l"a\n" | --- l"b\n" | f"c"`}, {"- a\n...\n- b", `(- p"a") | (- p"b")`}, {"a:\n---\nb:\n...\nc:", `(: p"a" p"") | --- (: p"b" p"") | (: p"c" p"")`}, {"- - &a\n--- *a", `(- (- &a p"")) | --- *a`}, {"a\n\n\n--- b\n\n\n...\n\n\n- c", `p"a" | --- p"b" | (- ^2 p"c")`}, {"|+\n a\n\n--- b", `l"a\n\n" | --- p"b"`},
	// their comments
	{"a\n#c\n--- b", `p"a" ;#c/0 | --- p"b"`}, {"a\n#c\n...\n#d\nb", `p"a" ;#c/0 | #d/0 p"b"`}, {"a\n\n#c\n...\n\n#d\n---\n#e\n\n\n#f", `p"a" ;#c/1 | @#d/1 --- p"" ;#e/0 #f/2`}, {"a #c\n--- #d\n--- #e\nb #f", `p"a" !#c | --- p"" !#d | --- #e/0 p"b" !#f`}, {"a\n...\n#c\n...\n#d\n--- b", `p"a" | @#c/0 #d/0 --- p"b"`}, {"a\n...\n#c\n...\n#d\nb", `p"a" | @#c/0 #d/0 p"b"`}, {"--- |\n a\n#c\n---\n#d\n...\n#e\n", `--- l"a\n" ;#c/0 | --- p"" ;#d/0 | $#e/0`}, {"--- #c\n#d\n---", `--- p"" !#c ;#d/0 | --- p""`},
	// dots, and the comments in their rows
	{"... #c", "$#c/0"}, {"...\t#c", "$#c/0"}, {"... \t # c \t\n", "$# c/0"}, {"... #", "$#/0"}, {"... ##", "$##/0"}, {"\n\n... #c\n", "$#c/0"}, {"... #c\n\n#d\n", "$#c/0 #d/1"}, {"... #c\n... #d\n", "$#c/0 #d/0"}, {"#c\n\n... #d\n#e\n\n\n...\n#f", "$#c/0 #d/0 #e/0 #f/0"}, {"... #c\na", `@#c/0 p"a"`}, {"... #c\n#d\na", `@#c/0 #d/0 p"a"`}, {"#c\n...\n#d\na", `@#c/0 #d/0 p"a"`}, {"#c\n... #d\n#e\n---", `@#c/0 #d/0 #e/0 --- p""`}, {"a\n... #c\n\n#d\n--- b", `p"a" | @#c/0 #d/1 --- p"b"`}, {"a #c\n... #d\nb", `p"a" !#c | @#d/0 p"b"`}, {"a\n#c\n... #d\n#e", `p"a" ;#c/0 | $#d/0 #e/0`}, {"--- a\n\n... #c\n\n... #d\n", `--- p"a" | $#c/0 #d/0`},
	// directives
	{"%a\n---", `%a --- p""`}, {"%YAML 1.2\n---\na", `%YAML 1.2 --- p"a"`}, {"%YAML\t1.1 \n--- a", `%YAML 1.1 --- p"a"`}, {"%TAG ! a\n%TAG !! b\n%TAG !c! d:\n---\n- !c!e f", `%TAG ! a %TAG !! b %TAG !c! d: --- (- !c!e p"f")`}, {"%a b  c\n%a b c\n%%\n---", `%a b c %a b c %% --- p""`}, {"\n\n%a\n\n\n---\n", `%a --- p""`}, {"%YAML 1.2\n%TAG ! a\n%b\n--- c\n", `%YAML 1.2 %TAG ! a %b --- p"c"`}, {"%a b#c\n---", `%a b#c --- p""`}, {"%#\n---", `%# --- p""`}, {"%%TAG ! a\n%TAG ! a\n---", `%%TAG ! a %TAG ! a --- p""`}, {"%a\n---\n\n...\n%b\n---\n", `%a --- p"" | %b --- p""`}, {"a\n...\n%b\n--- c", `p"a" | %b --- p"c"`}, {"...\n%a\n---", `%a --- p""`}, {"--- a\n...\n%YAML 1.1\n---\n...\n%YAML 1.1\n---\n", `--- p"a" | %YAML 1.1 --- p"" | %YAML 1.1 --- p""`}, {"%TAG ! a\n---\n...\n%TAG ! a\n---\n", `%TAG ! a --- p"" | %TAG ! a --- p""`}, {"%a\n---\n--- b", `%a --- p"" | --- p"b"`},
	// what begins like one in a document
	{"a\n%b", `p"a %b"`}, {"a\n%b\n---", `p"a %b" | --- p""`}, {"--- a\n%YAML 1.2\n---", `--- p"a %YAML 1.2" | --- p""`}, {"'a\n %b'", `s"a %b"`}, {"--- |\n%a\n---\n", `--- l"%a\n" | --- p""`},
	// their comments
	{"%a #c\n---", `@#c/0 %a --- p""`}, {"%a\t# c \n\n#d\n---", `@# c/0 #d/1 %a --- p""`}, {"#c\n%a\n#d\n---", `@#c/0 #d/0 %a --- p""`}, {"\n#c\n\n%a #d\n\n\n#e\n%b #f\n#g\n--- #h\n#i\nj #k\n#l", `@#c/1 #d/0 #e/2 #f/0 #g/0 %a %b --- #h/0 #i/0 p"j" !#k ;#l/0`}, {"\n\n%a #c\n---", `@#c/0 %a --- p""`}, {"... #c\n%a #d\n#e\n---", `@#c/0 #d/0 #e/0 %a --- p""`}, {"a\n#c\n... #d\n#e\n...\n%b #f\n---\n... #g", `p"a" ;#c/0 | @#d/0 #e/0 #f/0 %b --- p"" | $#g/0`}, {"%a #\n---", `@#/0 %a --- p""`}, {"%a\n\t#c\n---", `@#c/0 %a --- p""`},
}

// refused are texts that are no stream, with where that is, and why.
var refused = []struct {
	s    string
	at   int
	code api.Errno
}{
	// the chapter's example
	{"%YAML 1.2\na", 10, api.ErrForm},
	// directives without a document
	{"%a", 2, api.ErrForm}, {"%a\n", 3, api.ErrForm}, {"%a\n\n \n", 6, api.ErrForm}, {"%a\n#b\n", 6, api.ErrForm}, {"%a\n #b", 6, api.ErrForm}, {"%a #b", 5, api.ErrForm}, {"%a #b \n", 7, api.ErrForm}, {"%a\n...", 3, api.ErrForm}, {"%a\n... #b\n---", 3, api.ErrForm}, {"%a\n...\n---", 3, api.ErrForm}, {"%a\n... b", 3, api.ErrForm}, {"%a\n\n#b\n...\n", 7, api.ErrForm}, {"%a\nb", 3, api.ErrForm}, {"%a\n\n#b\n  c", 9, api.ErrForm}, {"%a\n- b\n---", 3, api.ErrForm}, {"%a\n%b\n[\n---", 6, api.ErrForm}, {"%a\n---b", 3, api.ErrForm}, {"%a\n ---", 4, api.ErrForm}, {"%a\n %b\n---", 4, api.ErrForm}, {"%a\n%b", 5, api.ErrForm}, {"%a\n---\n...\n%b", 13, api.ErrForm}, {"a\n...\n%b\n\n...\n---", 10, api.ErrForm},
	// what is no directive
	{"%", 0, api.ErrForm}, {"%\n---", 0, api.ErrForm}, {"% a\n---", 0, api.ErrForm}, {"%YAML\n---", 0, api.ErrForm}, {"%YAML 2.0\n---", 0, api.ErrForm}, {"%YAML 1.2 3\n---", 0, api.ErrForm}, {"%YAML 1. #2\n---", 0, api.ErrForm}, {"%TAG\n---", 0, api.ErrForm}, {"%TAG ! \n---", 0, api.ErrForm}, {"%TAG !a b\n---", 0, api.ErrForm}, {"%TAG ! %4\n---", 0, api.ErrForm}, {"\n#a\n%YAML\n---", 4, api.ErrForm}, {"%a\n%YAML 1\n---", 3, api.ErrForm}, {"%a\n\n%\n", 4, api.ErrForm}, {"%YAML\n\tb", 0, api.ErrForm}, {"%YAML a\nb", 0, api.ErrForm},
	// what is one twice
	{"%YAML 1.2\n%YAML 1.2\n---", 10, api.ErrForm}, {"%YAML 1.1\n#a\n%YAML 1.2\n---", 13, api.ErrForm}, {"%YAML 1.1\n%TAG ! a\n%b\n%YAML 1.2\n---", 22, api.ErrForm}, {"%TAG ! a\n%TAG ! b\n---", 9, api.ErrForm}, {"%TAG ! a\n%TAG !! a\n%TAG  !  c\n---", 19, api.ErrForm}, {"%TAG !a! b\n%TAG !a! b", 11, api.ErrForm}, {"%YAML 1.1\n%YAML 1\n---", 10, api.ErrForm},
	// ahead of what is in the first column alone, a directive
	{" %a\n---", 1, api.ErrForm}, {"- %a", 2, api.ErrForm}, {"[a]\n%b\n---", 4, api.ErrForm}, {"---\n%a", 4, api.ErrForm}, {"---\n%a\n---", 4, api.ErrForm}, {"--- %a", 4, api.ErrForm}, {"a: b\n%c\n---", 5, api.ErrForm}, {"- a\n%b", 4, api.ErrForm}, {"a #\n%b\n---", 4, api.ErrForm},
	// dots with something behind them
	{"... a", 4, api.ErrForm}, {"...\ta", 4, api.ErrForm}, {"... \t a #b", 6, api.ErrForm}, {"... ...", 4, api.ErrForm}, {"... ---\n", 4, api.ErrForm}, {"a\n... b\n", 6, api.ErrForm}, {"a\n...\n#b\n...  c", 14, api.ErrForm}, {"--- a\n... %b", 10, api.ErrForm}, {"... \x00", 4, api.ErrForm}, {"... \xff\n", 4, api.ErrForm}, {"... é", 4, api.ErrForm}, {"... \r", 4, api.ErrForm},
	// tabs
	{"\ta", 0, api.ErrTab}, {"\n \t a", 2, api.ErrTab}, {"#a\n\tb", 3, api.ErrTab}, {"%a\n\tb", 3, api.ErrTab}, {"%a\n  \t---", 5, api.ErrTab}, {"%a\n\t%b\n---", 3, api.ErrTab}, {"\t---", 0, api.ErrTab}, {"\t...", 0, api.ErrTab}, {"\t%a\n---", 0, api.ErrTab}, {"...\n\ta", 4, api.ErrTab}, {"a\n...\n \tb", 7, api.ErrTab}, {"---\n\ta", 4, api.ErrTab}, {"--- #a\n\t- b", 7, api.ErrTab}, {"a:\n\tb", 3, api.ErrTab}, {"... #a\n\tb", 7, api.ErrTab}, {"- a\n\t- b", 4, api.ErrTab},
	// what is wrong in a document
	{"a: b: c", 3, api.ErrForm}, {"--- a: b", 4, api.ErrForm}, {"--- - a", 4, api.ErrForm}, {"a\n---\n[", 7, api.ErrForm}, {"a\n--- b\nc: d", 9, api.ErrForm}, {"a\n...\n'b\n---\n", 9, api.ErrForm}, {"#\n,", 2, api.ErrForm}, {"--- &a &b", 7, api.ErrForm}, {"--- 'a' b", 8, api.ErrForm}, {"---\n- a\nb", 8, api.ErrForm}, {"a\n---\n- b\n  c: d", 13, api.ErrForm}, {"- a\n...\n- b\nc", 12, api.ErrForm},
}

// samples are all of these texts.
func samples() (all []string) {
	for _, c := range streams {
		all = append(all, c.s)
	}
	for _, c := range refused {
		all = append(all, c.s)
	}
	return all
}

// above are texts with no document that is not at its end, and what they are.
var above = []struct{ s, want string }{
	{"", ""}, {"\n", ""}, {"...\n", ""}, {"a\n...\n", `p"a"`}, {"--- [a]\n...\n", `--- [p"a"]`}, {"%a\n---\n... \n\n...\n", `%a --- p""`}, {"%YAML 1.2\n%TAG ! a\n%TAG !! b\n---\n- |\n a\n...\t\n", `%YAML 1.2 %TAG ! a %TAG !! b --- (- l"a\n")`},
}

// check holds Parse against the chapter's words, and tells where what it answers is wrong, and whether it is not.
func check(t *testing.T, s string) (int, bool) {
	t.Helper()
	got, at, e := stre.Parse(s)
	stream, wantAt, wantE := want(s)
	if !sameStream(got, stream) || at != wantAt || e != wantE {
		t.Fatalf("Parse(%q) = %s, %v, %d, %d, want %s, %v, %d, %d", s, show(got), places(got), at, e, show(stream), places(stream), wantAt, wantE)
	}
	return at, e == api.OK
}

// places returns those of all roots and of all in these, in their order.
func places(stream api.Stream) (all []int) {
	var add func(api.Node)
	add = func(n api.Node) {
		all = append(all, n.At)
		for _, kid := range n.Kids {
			add(kid)
		}
	}
	for _, d := range stream.Docs {
		add(d.Root)
	}
	return all
}

// 18.1, 18.2: the documents of a stream and the comments between them, whatever documents stand ahead.
func TestParse(t *testing.T) {
	for _, c := range streams {
		for _, b := range above {
			if b.s == "\n" {
				continue // a blank row more above the first comment
			}
			s := b.s + c.s
			want := b.want
			if want != "" && c.want != "" {
				want += " | "
			}
			want += c.want
			if got, at, e := stre.Parse(s); show(got) != want || at != 0 || e != api.OK {
				t.Errorf("Parse(%q) = %s, %d, %d, want %s", s, show(got), at, e, want)
			}
		}
	}
}

// 18.1, 18.2: what is no stream, and where it is none; the places are those in the whole text, and no document is left.
func TestRefused(t *testing.T) {
	for _, c := range refused {
		for _, b := range above {
			s := b.s + c.s
			if got, at, e := stre.Parse(s); !sameStream(got, api.Stream{}) || at != len(b.s)+c.at || e != c.code {
				t.Errorf("Parse(%q) = %s, %d, %d, want %d at %d", s, show(got), at, e, c.code, len(b.s)+c.at)
			}
		}
	}
}

// 18.1: what is nested too deep, in any document.
func TestDeep(t *testing.T) {
	for _, b := range above {
		for _, c := range []struct {
			s  string
			at int
		}{{strings.Repeat("- ", 41), 80}, {strings.Repeat("[", 41), 40}, {strings.Repeat("- ", 40) + "{}", 80}, {"---\n" + strings.Repeat("- ", 41), 84}, {"--- " + strings.Repeat("[", 41), 44}, {"#a\n%b\n--- " + strings.Repeat("[", 41), 50}} {
			s := b.s + c.s
			if got, at, e := stre.Parse(s); !sameStream(got, api.Stream{}) || at != len(b.s)+c.at || e != api.ErrDeep {
				t.Errorf("Parse(%q) = %s, %d, %d", s, show(got), at, e)
			}
		}
		s := b.s + strings.Repeat("- ", 40) + "a\n--- " + strings.Repeat("[", 40) + strings.Repeat("]", 40)
		if got, at, e := stre.Parse(s); len(got.Docs) != min(len(b.want), 1)+2 || at != 0 || e != api.OK {
			t.Errorf("Parse(%q) = %s, %d, %d", s, show(got), at, e)
		}
	}
}

// 18.1, 18.2: the first byte of each node, or -1, in each of the documents.
func TestPlaces(t *testing.T) {
	for _, c := range []struct {
		s    string
		want []int
	}{
		{"a", []int{0}}, {"\n#b\n  a", []int{6}}, {"--- a", []int{4}}, {"---\n\na", []int{5}}, {"---", []int{-1}}, {"---\n---\n", []int{-1, -1}}, {"a\n...\nb", []int{0, 6}}, {"a\n--- b\n---\n- c", []int{0, 6, 12, 14}}, {"- a\n---\n- b\n...\n - c", []int{0, 2, 8, 10, 17, 19}}, {"%a\n---\nb: &c", []int{7, 7, 10}}, {"é\n... #é\n%é\n--- é", []int{0, 19}},
	} {
		if got, _, _ := stre.Parse(c.s); !slices.Equal(places(got), c.want) {
			t.Errorf("Parse(%q) has the places %v, want %v", c.s, places(got), c.want)
		}
	}
}

// 18.1, 18.2: the samples and the chapter's words agree, by themselves and with rows above and below.
func TestSamples(t *testing.T) {
	for _, s := range samples() {
		for _, before := range []string{"", "\n", "#x\n", "a\n", "a\n\n", "---\n", "--- ", "... ", "...\n", "... #x\n", "%x\n", "%x #y\n", "%YAML 1.2\n", "%TAG ! x\n", "a\n...\n", "- ", "|\n", "|\n ", "'", "\t", " "} {
			for _, after := range []string{"", "\n", "\n#x", "\nx", "\n---", "\n...", "\n%x\n---", "\n...\n%x\n---"} {
				check(t, before+s+after)
			}
		}
	}
}

// grow calls use with all texts of at most most of these parts behind s, but with none that goes on below a row that is wrong already.
func grow(s string, parts []string, most int, use func(s string) (at int, ok bool)) {
	at, ok := use(s)
	if most == 0 || !ok && strings.Contains(s[min(max(at, 0), len(s)):], "\n") {
		return
	}
	for _, p := range parts {
		grow(s+p, parts, most-1, use)
	}
}

// 18.1, 18.2, 18.4: every text of so many parts of those of which streams are made.
func TestEveryText(t *testing.T) {
	t.Parallel()
	for _, c := range []struct {
		parts []string
		most  int
	}{
		{[]string{"---", "...", "%x", "a", "#c", " ", "\n"}, 7},
		{[]string{"---\n", "...\n", "%x\n", "a\n", "#c\n", "\n"}, 7},
		{[]string{"---", "... ", "%YAML 1.2", "%TAG ! a", " #c", "\n", "b"}, 6},
		{[]string{"--- ", "...", "%x #d\n", "- ", "a: ", "#c\n", "\n", " b"}, 6},
		{[]string{"---\t", "...\t", "%TAG !", " !a! b", "\n", "\t", "#c\n", "|\n", "[", "'"}, 5},
		{[]string{"-", ".", "%", "#", " ", "\n", "\t", "a"}, 6},
	} {
		grow("", c.parts, c.most, func(s string) (int, bool) { return check(t, s) })
	}
	for _, s := range []string{"a\n", "---", "%x\n", "...\n", "a\n...\n", "%YAML 1.2\n%TAG ! a\n", "- a\n#c\n", "... #c\n"} {
		grow(s, []string{"---", "...", "%YAML 1.2", "%TAG ! a", "b", " #d", "\n"}, 5, func(s string) (int, bool) { return check(t, s) })
	}
}

// 18.1, 18.2, 18.4: every byte, and runes of which one byte is another's, within each of the samples and in the place of each of their bytes; and each sample cut, without one of its bytes, and with one twice.
func TestEveryByte(t *testing.T) {
	t.Parallel()
	var all []string
	for i := range 0x100 {
		all = append(all, string([]byte{byte(i)}))
	}
	for _, c := range "\t\n -.%#" {
		all = append(all, string(0x100+c))
	}
	for _, s := range samples() {
		for i := range len(s) + 1 {
			behind := s[min(i+1, len(s)):]
			for _, k := range []string{s[:i], s[:i] + behind, s[:min(i+1, len(s))] + s[i:]} {
				check(t, k)
			}
			for _, o := range all {
				check(t, s[:i]+o+behind)
				check(t, s[:i]+o+s[i:])
			}
		}
	}
}

// 18.3 (W1): a text is a stream, or there is a code at a place in it with no document beside it.
func TestEitherOr(t *testing.T) {
	t.Parallel()
	either := func(s string) (int, bool) {
		stream, at, e := stre.Parse(s)
		switch {
		case e == api.OK && at == 0:
			return at, true
		case sameStream(stream, api.Stream{}) && at >= 0 && (e == api.ErrForm && at <= len(s) || e == api.ErrTab && at < len(s) && s[at] == '\t' || e == api.ErrDeep && at < len(s)):
			return at, false
		}
		t.Fatalf("Parse(%q) = %s, %d, %d", s, show(stream), at, e)
		return 0, false
	}
	for _, s := range samples() {
		for i := range len(s) + 1 {
			either(s[i:])
			either(s[:i])
			either(s[i:] + s[:i])
			either(s[:i] + strings.Repeat("[", 50) + s[i:])
		}
	}
	grow("", []string{"--", "-", "..", ".", "%", "a", "[", "\t", "#", "\n", " "}, 5, either)
}

// told returns what chapter 19 lists of a node: its texts and its comments in their order.
func told(n api.Node) (all []string) {
	all = comments(n.Lead)
	switch {
	case n.Kind == api.KAlias:
		all = append(all, "*"+n.Text)
	case n.Text != "":
		all = append(all, "="+n.Text)
	}
	for _, kid := range n.Kids {
		all = append(all, told(kid)...)
	}
	all = append(all, comments(n.Foot)...)
	if n.HasTrail {
		all = append(all, "#"+n.Trail)
	}
	return all
}

func comments(notes []api.Comment) (all []string) {
	for _, c := range notes {
		all = append(all, "#"+c.Text)
	}
	return all
}

// toldAll does the same of a stream.
func toldAll(stream api.Stream) (all []string) {
	for _, d := range stream.Docs {
		all = slices.Concat(all, comments(d.Head), told(d.Root), comments(d.Foot))
	}
	return append(all, comments(stream.Tail)...)
}

var numbered = regexp.MustCompile(`[#a][0-9]+`)

// 18.3 (W3): no comment is left out, told twice or told at another place among the texts, wherever comments, marks, dots and directives stand.
func TestKeepsComments(t *testing.T) {
	t.Parallel()
	use := func(s string) (int, bool) {
		// each text and each comment has a number, so that no two are the same
		var out strings.Builder
		places := make([]int, 0, 64)
		for i := range len(s) {
			out.WriteByte(s[i])
			places = append(places, i)
			if s[i] == '#' || s[i] == 'a' {
				for range len(strconv.Itoa(i)) {
					places = append(places, i)
				}
				out.WriteString(strconv.Itoa(i))
			}
		}
		places = append(places, len(s))
		stream, at, e := stre.Parse(out.String())
		got, want := numbered.FindAllString(strings.Join(toldAll(stream), " "), -1), numbered.FindAllString(out.String(), -1)
		if e == api.OK && !slices.Equal(got, want) {
			t.Fatalf("%q tells %q, want %q", out.String(), got, want)
		}
		return places[at], e == api.OK
	}
	for _, s := range []string{"", "---", "%x\n", "a\n", "- ", "..."} {
		grow(s, []string{"---", "...", "%x\n", "%x #\n", "- ", "a", "\n", " #\n", "\n#\n"}, 6, use)
	}
}

// shift moves a node and all in it by so many bytes.
func shift(n api.Node, by int) api.Node {
	if n.At >= 0 {
		n.At += by
	}
	n.Kids = slices.Clone(n.Kids)
	for i := range n.Kids {
		n.Kids[i] = shift(n.Kids[i], by)
	}
	return n
}

// together returns the documents of both, with those of b so many bytes further on, and with notes between.
func together(a, b api.Stream, by int, notes []api.Comment) api.Stream {
	notes = slices.Concat(a.Tail, notes)
	all := api.Stream{Docs: slices.Clone(a.Docs), Tail: b.Tail}
	if len(b.Docs) == 0 {
		all.Tail = slices.Concat(notes, b.Tail)
	}
	for i, d := range b.Docs {
		d.Root = shift(d.Root, by)
		if i == 0 {
			d.Head = slices.Concat(notes, d.Head)
		}
		all.Docs = append(all.Docs, d)
	}
	return all
}

// 18.3 (W1, W2): two streams with dots between are one, with the documents of both.
func TestTogether(t *testing.T) {
	t.Parallel()
	for _, c := range streams {
		first := c.s
		if first != "" && !strings.HasSuffix(first, "\n") {
			first += "\n"
		}
		a, _, _ := stre.Parse(first)
		for _, d := range streams {
			b, _, _ := stre.Parse(d.s)
			for _, between := range []struct {
				s     string
				notes []api.Comment
			}{{"...\n", nil}, {"...\n...\t\n", nil}, {"... #x\n", []api.Comment{{Text: "x"}}}, {"...\n\n#y \n... #\n", []api.Comment{{Text: "y", Blank: 1}, {}}}, {"", nil}} {
				if between.s == "" && !marks.MatchString(strings.SplitN(d.s, "\n", 2)[0]) {
					continue // without dots a document goes on up to a mark
				}
				s := first + between.s + d.s
				want := together(a, b, len(s)-len(d.s), between.notes)
				if got, at, e := stre.Parse(s); !sameStream(got, want) || at != 0 || e != api.OK {
					t.Fatalf("Parse(%q) = %s, %d, %d, want %s", s, show(got), at, e, show(want))
				}
			}
		}
	}
}

// 18.1, 18.2, 18.4: many documents, directives, comments, dots and blank rows, and long rows.
func TestLong(t *testing.T) {
	const n = 1 << 14
	many := func(s string) string { return strings.Repeat(s, n) }
	for _, c := range []struct {
		s                string
		docs, dirs, told int
		tail             int
	}{
		{many("\n"), 0, 0, 0, 0}, {many("...\n"), 0, 0, 0, 0}, {many("#c\n"), 0, 0, n, n}, {many("... #c\n"), 0, 0, n, n}, {many("---\n"), n, 0, 0, 0}, {many("--- a\n"), n, 0, n, 0}, {many("a\n...\n"), n, 0, n, 0}, {many("- a\n---\n"), n + 1, 0, n, 0}, {many("%x\n") + "---", 1, n, 0, 0}, {many("%x #c\n") + "---", 1, n, n, 0}, {many("%x\n---\n...\n"), n, n, 0, 0}, {many("%YAML 1.2 #c\n---\n...\n"), n, n, n, 0}, {many("#c\n") + "---\n" + many("#d\n") + "...\n" + many("#e\n"), 1, 0, 3 * n, n}, {many("#c\n") + "a", 1, 0, n + 1, 0},
		{"... #" + many("c"), 0, 0, 1, 1}, {"..." + many(" "), 0, 0, 0, 0}, {"..." + many("\t") + "#c", 0, 0, 1, 1}, {"%" + many("x") + "\n---", 1, 1, 0, 0}, {"%x" + many(" y") + "\n---", 1, 1, 0, 0}, {"---" + many(" ") + "a", 1, 0, 1, 0}, {many("\n") + "---", 1, 0, 0, 0}, {many(" ") + "a", 1, 0, 1, 0},
	} {
		stream, at, e := stre.Parse(c.s)
		dirs := 0
		for _, d := range stream.Docs {
			dirs += len(d.Dirs)
		}
		if len(stream.Docs) != c.docs || dirs != c.dirs || len(toldAll(stream)) != c.told || len(stream.Tail) != c.tail || at != 0 || e != api.OK {
			t.Errorf("Parse(%.20q..) has %d documents, %d directives, %d texts and comments, %d behind all, %d, %d, want %d, %d, %d, %d", c.s, len(stream.Docs), dirs, len(toldAll(stream)), len(stream.Tail), at, e, c.docs, c.dirs, c.told, c.tail)
		}
	}
	if stream, _, _ := stre.Parse("a\n...\n" + many("\n") + "#c"); len(stream.Tail) != 1 || stream.Tail[0].Blank != n {
		t.Errorf("comments %s, want %d blank rows", list(stream.Tail), n)
	}
	for _, c := range []struct {
		s    string
		at   int
		code api.Errno
	}{{many("---\n") + "\ta", 4 * n, api.ErrTab}, {many("a\n...\n") + "... b", 6*n + 4, api.ErrForm}, {many("%x\n"), 3 * n, api.ErrForm}, {many("%x\n") + "%", 3 * n, api.ErrForm}, {"..." + many(" ") + "a", n + 3, api.ErrForm}, {many("--- #c\n") + many("["), 7*n + 40, api.ErrDeep}} {
		if stream, at, e := stre.Parse(c.s); !sameStream(stream, api.Stream{}) || at != c.at || e != c.code {
			t.Errorf("Parse(%.20q..) has %d documents, %d, %d, want %d, %d", c.s, len(stream.Docs), at, e, c.at, c.code)
		}
	}
}

// slice is the memory of one: where it begins and ends, with its spare capacity.
type slice struct{ from, to uintptr }

func sliceOf[T any](l []T) slice {
	from := uintptr(unsafe.Pointer(unsafe.SliceData(l)))
	var one T
	return slice{from, from + uintptr(cap(l))*unsafe.Sizeof(one)}
}

// memory returns the slices and the texts in a node.
func memory(n api.Node) (lists []slice, texts []string) {
	lists = []slice{sliceOf(n.Kids), sliceOf(n.Lead), sliceOf(n.Foot)}
	texts = []string{n.Anchor, n.Tag, n.Text, n.Trail}
	for _, c := range slices.Concat(n.Lead, n.Foot) {
		texts = append(texts, c.Text)
	}
	for _, kid := range n.Kids {
		in, of := memory(kid)
		lists, texts = append(lists, in...), append(texts, of...)
	}
	return lists, texts
}

// memoryAll does the same of a stream.
func memoryAll(stream api.Stream) (lists []slice, texts []string) {
	lists = []slice{sliceOf(stream.Docs), sliceOf(stream.Tail)}
	for _, d := range stream.Docs {
		in, of := memory(d.Root)
		lists = append(append(lists, in...), sliceOf(d.Head), sliceOf(d.Dirs), sliceOf(d.Foot))
		texts = slices.Concat(texts, of, d.Dirs)
		for _, c := range slices.Concat(d.Head, d.Foot) {
			texts = append(texts, c.Text)
		}
	}
	for _, c := range stream.Tail {
		texts = append(texts, c.Text)
	}
	return lists, texts
}

// 18.1, 18.2: what is answered has memory of its own: none of it is of the text, and no two slices have some in common, in one answer or in two.
func TestOwnMemory(t *testing.T) {
	for _, b := range append(samples(), "") {
		for _, c := range []string{"", "#x\n%y\n--- z #u\n#v\n... #w\n#x\n%y z #t\n--- [a, 'b'] #c\n...\n#d\n#e\n"} {
			s := strings.Clone(c + b)
			first, _, _ := stre.Parse(s)
			second, _, _ := stre.Parse(s)
			lists, texts := memoryAll(first)
			again, _ := memoryAll(second)
			lists = append(lists, again...)
			lists = slices.DeleteFunc(lists, func(l slice) bool { return l.from == l.to })
			slices.SortFunc(lists, func(a, b slice) int { return int(a.from) - int(b.from) })
			for i := range lists {
				if i > 0 && lists[i].from < lists[i-1].to {
					t.Errorf("of %q: two slices share memory", s)
				}
			}
			from := uintptr(unsafe.Pointer(unsafe.StringData(s)))
			for _, x := range texts {
				if at := uintptr(unsafe.Pointer(unsafe.StringData(x))); x != "" && from <= at && at < from+uintptr(len(s)) {
					t.Errorf("of %q: the memory of %q is that of the text", s, x)
				}
			}
		}
	}
}
