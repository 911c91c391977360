package tree_test

import (
	"math"
	"regexp"
	"slices"
	"strconv"
	"strings"
	"testing"
	"unsafe"

	"bosket/api"
	"bosket/tree"
)

// same reports whether two nodes are, with all that is in them.
func same(a, b api.Node) bool {
	return a.Kind == b.Kind && a.Style == b.Style && a.At == b.At && a.Blank == b.Blank && a.Anchor == b.Anchor && a.Tag == b.Tag && a.Text == b.Text && a.HasTrail == b.HasTrail && a.Trail == b.Trail &&
		slices.Equal(a.Lead, b.Lead) && slices.Equal(a.Foot, b.Foot) && slices.EqualFunc(a.Kids, b.Kids, same)
}

func list(notes []api.Comment) string {
	var all []string
	for _, c := range notes {
		all = append(all, "#"+c.Text+"/"+strconv.Itoa(c.Blank))
	}
	return strings.Join(all, " ")
}

// show tells a node, but not its place: its comments and the blank rows above it, its properties, its contents, and the comment behind it. Block collections stand in (- ) and (: ).
func show(node api.Node) string {
	var all []string
	if len(node.Lead) > 0 {
		all = append(all, list(node.Lead))
	}
	if node.Blank != 0 {
		all = append(all, "^"+strconv.Itoa(node.Blank))
	}
	if node.Anchor != "" {
		all = append(all, "&"+node.Anchor)
	}
	if node.Tag != "" {
		all = append(all, node.Tag)
	}
	all = append(all, contents(node))
	if node.HasTrail {
		all = append(all, "!#"+node.Trail)
	}
	return strings.Join(all, " ")
}

func contents(node api.Node) string {
	switch node.Kind {
	case 0:
		return "nothing"
	case api.KAlias:
		return "*" + node.Text
	case api.KScalar:
		return []string{"", "p", "s", "d", "l", "f"}[node.Style] + strconv.Quote(node.Text)
	}
	var all []string
	for _, kid := range node.Kids {
		all = append(all, show(kid))
	}
	if len(node.Foot) > 0 {
		all = append(all, ";"+list(node.Foot))
	}
	in := strings.Join(all, " ")
	switch {
	case node.Style == api.SBlock:
		return "(" + []string{"-", ":"}[node.Kind-api.KSeq] + " " + in + ")"
	case node.Kind == api.KSeq:
		return "[" + in + "]"
	}
	return "{" + in + "}"
}

// places returns those of a node and of all in it, in their order.
func places(node api.Node) []int {
	all := []int{node.At}
	for _, kid := range node.Kids {
		all = append(all, places(kid)...)
	}
	return all
}

// checkAt holds Read against the chapter's words in one place of s, and tells where the document ends or is wrong, and whether it is not.
func checkAt(t *testing.T, s string, at int, beside bool) (int, bool) {
	t.Helper()
	got, rest, to, e := tree.Read(s, at, beside)
	node, wantRest, wantTo, wantE := want(s, at, beside)
	if !same(got, node) || !slices.Equal(rest, wantRest) || to != wantTo || e != wantE {
		t.Fatalf("Read(%q, %d, %v) = %s, %v, %s, %d, %d, want %s, %v, %s, %d, %d", s, at, beside, show(got), places(got), list(rest), to, e, show(node), places(node), list(wantRest), wantTo, wantE)
	}
	return to, e == api.OK
}

// checkKey does the same with Key.
func checkKey(t *testing.T, s string, at int) {
	t.Helper()
	got, ok := tree.Key(s, at)
	if colon, is := wantKey(s, at); got != colon || ok != is {
		t.Fatalf("Key(%q, %d) = %d, %v, want %d, %v", s, at, got, ok, colon, is)
	}
}

// check does both in every place of s, and right outside of it.
func check(t *testing.T, s string) {
	t.Helper()
	for at := -1; at <= len(s)+1; at++ {
		checkKey(t, s, at)
		checkAt(t, s, at, false)
		checkAt(t, s, at, true)
	}
}

// grow calls use with all texts of at most most of these parts behind s, but with none that goes on below a row that is wrong already.
func grow(s string, parts []string, most int, use func(s string) (to int, ok bool)) {
	to, ok := use(s)
	if most == 0 || !ok && strings.Contains(s[min(max(to, 0), len(s)):], "\n") {
		return
	}
	for _, p := range parts {
		grow(s+p, parts, most-1, use)
	}
}

// documents are texts without comments, and their roots.
var documents = []struct{ s, want string }{
	// the chapter's example
	{"a:\n- b", `(: p"a" (- p"b"))`},
	// no node at all
	{"", `p""`}, {" ", `p""`}, {"\n", `p""`}, {"\n \n\t\n", `p""`},
	// contents
	{"a", `p"a"`}, {"a b\n", `p"a b"`}, {"\n\n  a", `p"a"`}, {"a\nb\n\nc", `p"a b\nc"`}, {"a\n  b", `p"a b"`}, {"'a''b'", `s"a'b"`}, {"\"a\\n\nb\"\n", `d"a\n b"`}, {"*a", `*a`}, {" *a:b\n", `*a:b`}, {"[a,\nb]\n", `[p"a" p"b"]`}, {"{a: b}", `{p"a" p"b"}`}, {"|\n a\n b", `l"a\nb"`}, {">-\n\n  a\n  b\n\n", `f"\na b"`}, {"|\na\n", `l"a\n"`}, {"|1\n a\n", `l"a\n"`}, {"-a", `p"-a"`}, {"?a", `p"?a"`}, {":a", `p":a"`}, {"a:b", `p"a:b"`}, {"a#b", `p"a#b"`}, {"---a", `p"---a"`}, {"-- a", `p"-- a"`}, {"- --- a", `(- p"--- a")`}, {"a - b", `p"a - b"`}, {"a\n- b", `p"a - b"`}, {"a\n? b", `p"a ? b"`}, {"é", `p"é"`}, {"\x00\xff", `p"\x00\xff"`}, {"a\t", `p"a"`}, {"\"a\" \t\n \n", `d"a"`}, {"[a]\n\t\n", `[p"a"]`}, {"a\n\tb", `p"a b"`},
	// items
	{"-", `(- p"")`}, {"- ", `(- p"")`}, {"-\n", `(- p"")`}, {"- a", `(- p"a")`}, {"- a\n- b\n", `(- p"a" p"b")`}, {" - a\n - b", `(- p"a" p"b")`}, {"-  a\n-     b", `(- p"a" p"b")`}, {"-\ta", `(- p"a")`}, {"- \t a\n-\t\"b\"", `(- p"a" d"b")`}, {"-\n  a\n-\n b", `(- p"a" p"b")`}, {"-\n-\n- a", `(- p"" p"" p"a")`}, {"- \n\n\n- a\n\n\n", `(- p"" ^2 p"a")`}, {"- a\n b\n- c", `(- p"a b" p"c")`}, {"- a\n  - b", `(- p"a - b")`}, {"- a\n - b\n- c", `(- p"a - b" p"c")`}, {"- 'a\n  b'\n- [c,\n d]", `(- s"a b" [p"c" p"d"])`}, {"- |\n a\n- >\n  b\n\n- c", `(- l"a\n" f"b\n" ^1 p"c")`}, {"- |1\n  a\n- b", `(- l" a\n" p"b")`}, {"- |+\n\n- a", `(- l"\n" ^1 p"a")`}, {"- *a\n- *b", `(- *a *b)`}, {"- -a\n- ?b\n- :c", `(- p"-a" p"?b" p":c")`}, {"- a\n\t\n- b", `(- p"a" ^1 p"b")`},
	{"- - a", `(- (- p"a"))`}, {"- - - a\n    - b\n  - c\n- d", `(- (- (- p"a" p"b") p"c") p"d")`}, {"-   - a\n    - b", `(- (- p"a" p"b"))`}, {"-\n - a\n - b\n- c", `(- (- p"a" p"b") p"c")`}, {"- -\n  - a", `(- (- p"" p"a"))`}, {"- -\n- a", `(- (- p"") p"a")`}, {"-\n  -\n    - a\n-", `(- (- (- p"a")) p"")`}, {"- -\n\n   - a", `(- (- (- ^1 p"a")))`},
	// keys and their values
	{"a:", `(: p"a" p"")`}, {"a: ", `(: p"a" p"")`}, {"a:\n", `(: p"a" p"")`}, {"a: b", `(: p"a" p"b")`}, {"a : b", `(: p"a" p"b")`}, {"a\t:\tb", `(: p"a" p"b")`}, {"a: b\nc: d\n", `(: p"a" p"b" p"c" p"d")`}, {"  a: b\n  c: d", `(: p"a" p"b" p"c" p"d")`}, {"a:\nb:\nc: d", `(: p"a" p"" p"b" p"" p"c" p"d")`}, {"a:\n b\nc:\n   d", `(: p"a" p"b" p"c" p"d")`}, {"a: b\n c\n\n d\ne: f", `(: p"a" p"b c\nd" p"e" p"f")`}, {"a b c: d e f", `(: p"a b c" p"d e f")`}, {"a:b: c:d", `(: p"a:b" p"c:d")`}, {"a:: b", `(: p"a:" p"b")`}, {"-: a", `(: p"-" p"a")`}, {"?: a", `(: p"?" p"a")`}, {":: a", `(: p":" p"a")`}, {"-a: b\n?c: d\n:e: f", `(: p"-a" p"b" p"?c" p"d" p":e" p"f")`}, {"a#b: c", `(: p"a#b" p"c")`}, {"'a': b\n\"c\" : d", `(: s"a" p"b" d"c" p"d")`}, {"'a: b': 'c: d'", `(: s"a: b" s"c: d")`}, {"*a : *b\n*c\t:", `(: *a *b *c p"")`}, {"[a]: b\n{c: d} : [e]", `(: [p"a"] p"b" {p"c" p"d"} [p"e"])`}, {"[[a, b]: c]: d", `(: [{[p"a" p"b"] p"c"}] p"d")`}, {": a", `(: p"" p"a")`}, {":", `(: p"" p"")`}, {":\n:\n: a", `(: p"" p"" p"" p"" p"" p"a")`}, {":\n a", `(: p"" p"a")`}, {"a,b]: c", `(: p"a,b]" p"c")`}, {"--: a", `(: p"--" p"a")`}, {"a: ---\nb: ...", `(: p"a" p"---" p"b" p"...")`}, {" --- : a", `(: p"---" p"a")`},
	{"a: |\n b\nc: >-\n d\n", `(: p"a" l"b\n" p"c" f"d")`}, {"a: |2\n   b\nc: d", `(: p"a" l" b\n" p"c" p"d")`}, {"a: |\nb: c", `(: p"a" l"" p"b" p"c")`}, {"a: [b,\n c]\nd: {e: f,\n g}", `(: p"a" [p"b" p"c"] p"d" {p"e" p"f" p"g" p""})`}, {"a: 'b\n c'\nd: \"e\n\n f\"", `(: p"a" s"b c" p"d" d"e\nf")`}, {"a:\n b: c\n d: e\nf: g", `(: p"a" (: p"b" p"c" p"d" p"e") p"f" p"g")`}, {"a:\n   b:\n    c: d\n   e:\nf:", `(: p"a" (: p"b" (: p"c" p"d") p"e" p"") p"f" p"")`}, {"a:\n - b\n - c\nd:", `(: p"a" (- p"b" p"c") p"d" p"")`}, {"- a: b\n  c: d\n- e: f", `(- (: p"a" p"b" p"c" p"d") (: p"e" p"f"))`}, {"-\n a: b\n c:\n- d", `(- (: p"a" p"b" p"c" p"") p"d")`}, {"-   : a\n    b: c", `(- (: p"" p"a" p"b" p"c"))`}, {"- a:\n    - b\n  c:\n  - d\n- e", `(- (: p"a" (- p"b") p"c" (- p"d")) p"e")`}, {"- - a: b\n    c: d\n  - e", `(- (- (: p"a" p"b" p"c" p"d") p"e"))`},
	// sequences on the column of their key
	{"a:\n- b\n- c\nd: e", `(: p"a" (- p"b" p"c") p"d" p"e")`}, {"a:\n-\n-\nb:\n- c", `(: p"a" (- p"" p"") p"b" (- p"c"))`}, {"a:\n\n- b\n\n- c\n\nd:", `(: p"a" (- ^1 p"b" ^1 p"c") ^1 p"d" p"")`}, {"a:\n- b:\n  - c\n  d:\n- e\nf:", `(: p"a" (- (: p"b" (- p"c") p"d" p"") p"e") p"f" p"")`}, {"- a:\n  - b\n  c:\n  - d", `(- (: p"a" (- p"b") p"c" (- p"d")))`}, {": \n- a", `(: p"" (- p"a"))`}, {"a:\n- |\n x\n- 'y\n z'\nb:", `(: p"a" (- l"x\n" s"y z") p"b" p"")`}, {"?\n- a\n- b\n:\n- c\n- d\ne:", `(: (- p"a" p"b") (- p"c" p"d") p"e" p"")`}, {"?\n- a\nb:", `(: (- p"a") p"" p"b" p"")`}, {"? a\n:\n- b\n? c", `(: p"a" (- p"b") p"c" p"")`},
	// queries
	{"?", `(: p"" p"")`}, {"? ", `(: p"" p"")`}, {"?\n:", `(: p"" p"")`}, {"? a", `(: p"a" p"")`}, {"? a\n: b", `(: p"a" p"b")`}, {"?\ta\n:\tb", `(: p"a" p"b")`}, {"?  a\n:   b", `(: p"a" p"b")`}, {"?\n a\n:\n b", `(: p"a" p"b")`}, {"? a\n\n: b", `(: p"a" p"b")`}, {"? a\n:", `(: p"a" p"")`}, {"?\n: a", `(: p"" p"a")`}, {"? a\n? b\n: c\n? d", `(: p"a" p"" p"b" p"c" p"d" p"")`}, {"? a\nb: c\n? d", `(: p"a" p"" p"b" p"c" p"d" p"")`}, {"? a\n: b\nc: d", `(: p"a" p"b" p"c" p"d")`}, {"? a\n: b\n: c", `(: p"a" p"b" p"" p"c")`}, {"a: b\n? c\n: d\n:", `(: p"a" p"b" p"c" p"d" p"" p"")`}, {"? a\n b\n: c\n d", `(: p"a b" p"c d")`}, {"? |\n a\n: |\n b", `(: l"a\n" l"b")`}, {"? |-\n  a\n\n: >-\n  b", `(: l"a" f"b")`}, {"? 'a\n  b'\n: \"c\n  d\"", `(: s"a b" d"c d")`}, {"? [a,\n b]\n: {c,\n d}", `(: [p"a" p"b"] {p"c" p"" p"d" p""})`}, {"? *a\n: *b", `(: *a *b)`}, {"?a\n", `p"?a"`}, {"? ?a\n: :b", `(: p"?a" p":b")`}, {"? a\n:b: c", `(: p"a" p"" p":b" p"c")`},
	{"? - a\n  - b\n: - c\n  - d", `(: (- p"a" p"b") (- p"c" p"d"))`}, {"? a: b\n  c: d\n: e: f\n  g:", `(: (: p"a" p"b" p"c" p"d") (: p"e" p"f" p"g" p""))`}, {"? ? a\n  : b\n: ? c\n  : d", `(: (: p"a" p"b") (: p"c" p"d"))`}, {"? ? a\n: b", `(: (: p"a" p"") p"b")`}, {"? a : b", `(: (: p"a" p"b") p"")`}, {"? : a\n: : b", `(: (: p"" p"a") (: p"" p"b"))`}, {"?\n - a\n:\n - b", `(: (- p"a") (- p"b"))`}, {"?\n a: b\n:\n c: d", `(: (: p"a" p"b") (: p"c" p"d"))`}, {"?\n? a\n: b", `(: p"" p"" p"a" p"b")`}, {"?\n  ?\n  : a\n: b", `(: (: p"" p"a") p"b")`}, {"- ? a\n  : b\n  ? c\n- d", `(- (: p"a" p"b" p"c" p"") p"d")`}, {"a:\n  ? b\n  : c\nd:", `(: p"a" (: p"b" p"c") p"d" p"")`}, {"? - ? a\n    : b\n  - c\n: d", `(: (- (: p"a" p"b") p"c") p"d")`},
	// properties
	{"&a b", `&a p"b"`}, {"!t &a b", `&a !t p"b"`}, {"&a\t!t\tb", `&a !t p"b"`}, {"! a", `! p"a"`}, {"&a: b", `&a: p"b"`}, {"!t 'a'", `!t s"a"`}, {"&a [b]", `&a [p"b"]`}, {"&a {b: c}", `&a {p"b" p"c"}`}, {"&a |\n b\n", `&a l"b\n"`}, {"&a -b", `&a p"-b"`}, {"&a", `&a p""`}, {"!t ", `!t p""`}, {"&a !t\n", `&a !t p""`}, {"&a\nb", `&a p"b"`}, {"&a\n\n  b\nc", `&a p"b c"`}, {"&a\n'b'", `&a s"b"`}, {"&a\n[b]", `&a [p"b"]`}, {"&a\n|\n b", `&a l"b"`}, {"&a\n>\n  b\n", `&a f"b\n"`}, {"&a\n- b\n- c", `&a (- p"b" p"c")`}, {"&a\n  - b\n  - c", `&a (- p"b" p"c")`}, {"&a\nb: c\nd: e", `&a (: p"b" p"c" p"d" p"e")`}, {"&a\n? b\n: c", `&a (: p"b" p"c")`}, {"&a\n: b", `&a (: p"" p"b")`}, {"&a\n\n\nb: c", `&a (: ^2 p"b" p"c")`},
	{"&a b: c", `(: &a p"b" p"c")`}, {"&a b: &c d", `(: &a p"b" &c p"d")`}, {"&a !t b : !u c", `(: &a !t p"b" !u p"c")`}, {"!t 'a': b", `(: !t s"a" p"b")`}, {"&a [b]: c", `(: &a [p"b"] p"c")`}, {"&a : b", `(: &a p"" p"b")`}, {"!t :", `(: !t p"" p"")`}, {"&a\n&b c: d", `&a (: &b p"c" p"d")`}, {"&a\n!t : b", `&a (: !t p"" p"b")`}, {"a: b\n&c d: e", `(: p"a" p"b" &c p"d" p"e")`},
	{"- &a b\n- !t c", `(- &a p"b" !t p"c")`}, {"- &a\n- !t\n- b", `(- &a p"" !t p"" p"b")`}, {"- &a\n  b", `(- &a p"b")`}, {"- &a\n  - b\n  - c\n- d", `(- &a (- p"b" p"c") p"d")`}, {"- &a\n  b: c\n- d", `(- &a (: p"b" p"c") p"d")`}, {"- &a b: c\n  d: e", `(- (: &a p"b" p"c" p"d" p"e"))`}, {"-\n &a\n b", `(- &a p"b")`}, {"-\n  &a\n - b", `(- &a (- p"b"))`}, {"-\n  &a b\n- c", `(- &a p"b" p"c")`}, {"-\t&a b", `(- &a p"b")`}, {"-\t&a\n  b: c", `(- &a (: p"b" p"c"))`},
	{"a: &b\nc: d", `(: p"a" &b p"" p"c" p"d")`}, {"a: &b\n- c\n- d\ne:", `(: p"a" &b (- p"c" p"d") p"e" p"")`}, {"a: &b\n  - c\nd:", `(: p"a" &b (- p"c") p"d" p"")`}, {"a: &b\n  c: d\ne:", `(: p"a" &b (: p"c" p"d") p"e" p"")`}, {"a:\n &b\n c: d", `(: p"a" &b (: p"c" p"d"))`}, {"a:\n  &b\n c: d", `(: p"a" &b (: p"c" p"d"))`}, {"a:\n &b\n- c\nd:", `(: p"a" &b (- p"c") p"d" p"")`}, {"a: !t\n  b\n  c", `(: p"a" !t p"b c")`}, {"a: !t >\n b\nc:", `(: p"a" !t f"b\n" p"c" p"")`},
	{"? &a b\n: &c d", `(: &a p"b" &c p"d")`}, {"? &a\n: !t", `(: &a p"" !t p"")`}, {"? &a\n- b\n: !t\n- c", `(: &a (- p"b") !t (- p"c"))`}, {"? &a\n  b: c\n: !t\n  d: e", `(: &a (: p"b" p"c") !t (: p"d" p"e"))`}, {"? &a b: c", `(: (: &a p"b" p"c") p"")`}, {"? &a\n  &b c: d", `(: &a (: &b p"c" p"d") p"")`}, {"? &a\n  b", `(: &a p"b" p"")`},
	// blank rows above items and keys
	{"\n\n- a", `(- ^2 p"a")`}, {"- a\n\n\t\n \n- b", `(- p"a" ^3 p"b")`}, {"- - a\n\n  - b\n\n\n- c", `(- (- p"a" ^1 p"b") ^2 p"c")`}, {"-\n\n  a", `(- p"a")`}, {"-\n\n  - a", `(- (- ^1 p"a"))`}, {"\n- a: b\n\n  c: d", `(- ^1 (: p"a" p"b" ^1 p"c" p"d"))`}, {"\n\na:\n\n  b\n\nc: d", `(: ^2 p"a" p"b" ^1 p"c" p"d")`}, {"\n? a\n\n: b\n\n?\n\n  c", `(: ^1 p"a" p"b" ^1 p"c" p"")`}, {"a:\n\n: b", `(: p"a" p"" ^1 p"" p"b")`}, {"a:\n\n&b : c\n\n&d e:", `(: p"a" p"" ^1 &b p"" p"c" ^1 &d p"e" p"")`}, {"\n&a\n\n- b", `&a (- ^1 p"b")`}, {"\n\n[\n\na]", `[^1 p"a"]`}, {"- a\n\n- [\n\n  b]", `(- p"a" ^1 [^1 p"b"])`}, {"a:\n\n\n- b", `(: p"a" (- ^2 p"b"))`}, {"\n? - a\n\n  - b", `(: ^1 (- p"a" ^1 p"b") p"")`}, {"- |\n a\n\n\n- b", `(- l"a\n" ^2 p"b")`}, {"a\n\n\n", `p"a"`},
}

// commented are texts with comments, their roots, and the comments that belong to no node.
var commented = []struct{ s, want, rest string }{
	// ahead of a root, and behind it
	{"#x\na", `#x/0 p"a"`, ""}, {"\n\n #x\n\n\t#y\n\n  'a'", `#x/2 #y/1 s"a"`, ""}, {"#x\n- a", `#x/0 (- p"a")`, ""}, {"#x\na: b", `#x/0 (: p"a" p"b")`, ""}, {"#x\n? a", `#x/0 (: p"a" p"")`, ""}, {"#x\n[a]", `#x/0 [p"a"]`, ""}, {"#x\n- - a: b", `#x/0 (- (- (: p"a" p"b")))`, ""}, {"#x", `p""`, "#x/0"}, {" #x\n", `p""`, "#x/0"}, {"\n#x\n\n #y", `p""`, "#x/1 #y/1"}, {"a #x", `p"a" !#x`, ""}, {"a\n#x", `p"a"`, "#x/0"}, {"a #x\n#y\n\n #z\n", `p"a" !#x`, "#y/0 #z/1"}, {"a b\n c\t#x", `p"a b c" !#x`, ""}, {"- a\n#x", `(- p"a")`, "#x/0"}, {"- a\n  #x\n\n#y", `(- p"a")`, "#x/0 #y/1"}, {"a: b\n #x", `(: p"a" p"b")`, "#x/0"}, {"'a\n b' #x\n#y", `s"a b" !#x`, "#y/0"}, {"*a #x\n#y", `*a !#x`, "#y/0"},
	// comments and texts that are none
	{"#\na #", `#/0 p"a" !#`, ""}, {"##x \t\n# y\t\na", `##x/0 # y/0 p"a"`, ""}, {"# a: b\na: b#c #d", `# a: b/0 (: p"a" p"b#c" !#d)`, ""}, {"a:#b: c", `(: p"a:#b" p"c")`, ""},
	// of items
	{"- a #x\n- b #y", `(- p"a" !#x p"b" !#y)`, ""}, {"- a\n#x\n- b", `(- p"a" #x/0 p"b")`, ""}, {"- a #x\n  #y\n\n#z\n- b", `(- p"a" !#x #y/0 #z/1 p"b")`, ""}, {"- #x\n  a", `(- #x/0 p"a")`, ""}, {"-\n  #x\n  a", `(- #x/0 p"a")`, ""}, {"-\n\n#x\n  a", `(- #x/1 p"a")`, ""}, {"#x\n- #y\n  a", `#x/0 (- #y/0 p"a")`, ""}, {"- a\n#x\n- #y\n  #z\n  b", `(- p"a" #x/0 #y/0 #z/0 p"b")`, ""}, {"- #x\n  - a", `(- #x/0 (- p"a"))`, ""}, {"- #x\n  - #y\n    - a", `(- #x/0 (- #y/0 (- p"a")))`, ""}, {"- - #x\n    a", `(- (- #x/0 p"a"))`, ""}, {"- - a\n  #x\n  - b\n#y\n- c", `(- (- p"a" #x/0 p"b") #y/0 p"c")`, ""}, {"- - a\n  #x\n- b", `(- (- p"a") #x/0 p"b")`, ""}, {"- - a\n#x", `(- (- p"a"))`, "#x/0"}, {"- #x\n  a: b", `(- #x/0 (: p"a" p"b"))`, ""}, {"- a: b\n  #x\n- c", `(- (: p"a" p"b") #x/0 p"c")`, ""}, {"- [a #x\n ] #y\n#z\n- b", `(- [p"a" !#x] !#y #z/0 p"b")`, ""}, {"- [a,\n #x\n ]\n- b", `(- [p"a" ;#x/0] p"b")`, ""}, {"- 'a' #x\n- \"b\"\t#y\n- *c #z\n- [] #u", `(- s"a" !#x d"b" !#y *c !#z [] !#u)`, ""},
	// of empty items
	{"- #x\n- a", `(- p"" !#x p"a")`, ""}, {"-\t#x", `(- p"" !#x)`, ""}, {"- #x\n  #y\n- a", `(- p"" !#x #y/0 p"a")`, ""}, {"-\n  #x\n- a", `(- p"" #x/0 p"a")`, ""}, {"-\n#x", `(- p"")`, "#x/0"}, {"- a\n#x\n- #y\n#z\n- b", `(- p"a" #x/0 p"" !#y #z/0 p"b")`, ""}, {"- a\n#x\n-\n#y\n- b", `(- p"a" #x/0 p"" #y/0 p"b")`, ""}, {"- - #x\n  - #y\n- #z", `(- (- p"" !#x p"" !#y) p"" !#z)`, ""}, {"- - #x\n  #y\n- a", `(- (- p"" !#x) #y/0 p"a")`, ""},
	// of values
	{"a: b #x\nc: d #y\n#z", `(: p"a" p"b" !#x p"c" p"d" !#y)`, "#z/0"}, {"a: #x\n b", `(: p"a" #x/0 p"b")`, ""}, {"a:\n#x\n  b", `(: p"a" #x/0 p"b")`, ""}, {"a:\n\n #x\n#y\n b", `(: p"a" #x/1 #y/0 p"b")`, ""}, {"a: #x\n  - b", `(: p"a" #x/0 (- p"b"))`, ""}, {"a: #x\n- #y\n  b\n#z\n- c", `(: p"a" #x/0 (- #y/0 p"b" #z/0 p"c"))`, ""}, {"a: #x\n  b: #y\n    c: d", `(: p"a" #x/0 (: p"b" #y/0 (: p"c" p"d")))`, ""}, {"a: #x\n  ? b", `(: p"a" #x/0 (: p"b" p""))`, ""}, {"a: b\n#x\nc: d", `(: p"a" p"b" #x/0 p"c" p"d")`, ""}, {"a:\n  b: c\n  #x\n  d: e\n  #y\nf: g", `(: p"a" (: p"b" p"c" #x/0 p"d" p"e") #y/0 p"f" p"g")`, ""}, {"a:\n- b #x\n#y\nc:", `(: p"a" (- p"b" !#x) #y/0 p"c" p"")`, ""}, {"a: b\n#x\n? c", `(: p"a" p"b" #x/0 p"c" p"")`, ""}, {"a: b\n#x\n: c", `(: p"a" p"b" #x/0 p"" p"c")`, ""}, {"a: b\n#x\n&c d: e", `(: p"a" p"b" #x/0 &c p"d" p"e")`, ""}, {"a : b #x\n\n#y\n\n'c' : d", `(: p"a" p"b" !#x #y/1 ^1 s"c" p"d")`, ""},
	// of empty values
	{"a: #x\nb: c", `(: p"a" p"" !#x p"b" p"c")`, ""}, {"a:\t#x\n#y\nb: c", `(: p"a" p"" !#x #y/0 p"b" p"c")`, ""}, {"a:\n#x\nb: c", `(: p"a" p"" #x/0 p"b" p"c")`, ""}, {"a: #x", `(: p"a" p"" !#x)`, ""}, {"a:\n #x\n", `(: p"a" p"")`, "#x/0"}, {"a:\n  b: #x\n  #y\nc:", `(: p"a" (: p"b" p"" !#x) #y/0 p"c" p"")`, ""}, {": #x\n: #y\n", `(: p"" p"" !#x p"" p"" !#y)`, ""}, {"- a: #x\n- b", `(- (: p"a" p"" !#x) p"b")`, ""},
	// of block scalars
	{"| #x\n a\n#y", `l"a\n" !#x`, "#y/0"}, {"a: | #x\n  b\n #y\nc: d", `(: p"a" l"b\n" !#x #y/0 p"c" p"d")`, ""}, {"- >- # x \n  a\n\n #y\n- b", `(- f"a" !# x #y/1 p"b")`, ""}, {"a: |\n  #x\n  b\n#y", `(: p"a" l"#x\nb\n")`, "#y/0"}, {"a: #x\n  | #y\n  b", `(: p"a" #x/0 l"b" !#y)`, ""}, {"- | #x\n#y\n- a", `(- l"" !#x #y/0 p"a")`, ""}, {"- |2- #x\n #y\n- a", `(- l"" !#x #y/0 p"a")`, ""},
	// ahead of keys with a query, and behind that
	{"? #x\n  a", `(: #x/0 p"a" p"")`, ""}, {"?\n#x\n a\n: b", `(: #x/0 p"a" p"b")`, ""}, {"#x\n? #y\n  a", `#x/0 (: #y/0 p"a" p"")`, ""}, {"a: b\n#x\n? #y\n  #z\n  c", `(: p"a" p"b" #x/0 #y/0 #z/0 p"c" p"")`, ""}, {"? #x\n  - a\n: b", `(: #x/0 (- p"a") p"b")`, ""}, {"? #x\n- a\n: b", `(: #x/0 (- p"a") p"b")`, ""}, {"? #x\n  a: b", `(: #x/0 (: p"a" p"b") p"")`, ""}, {"? #x\n  ? #y\n    a", `(: #x/0 (: #y/0 p"a" p"") p"")`, ""},
	// behind such keys
	{"? a #x\n: b", `(: p"a" #x/0 p"b")`, ""}, {"? a\n#x\n: b", `(: p"a" #x/0 p"b")`, ""}, {"? a #x\n #y\n\n#z\n: #u\n  #v\n  b", `(: p"a" #x/0 #y/0 #z/1 #u/0 #v/0 p"b")`, ""}, {"? a #x\n: - b", `(: p"a" #x/0 (- p"b"))`, ""}, {"? a #x\n:\n- #y\n  b", `(: p"a" #x/0 (- #y/0 p"b"))`, ""}, {"? a #x\n: b: c #y", `(: p"a" #x/0 (: p"b" p"c" !#y))`, ""}, {"? 'a' #x\n: b", `(: s"a" #x/0 p"b")`, ""}, {"? *a #x\n: b", `(: *a #x/0 p"b")`, ""}, {"? [a #x\n ] #y\n: b", `(: [p"a" !#x] #y/0 p"b")`, ""}, {"? | #x\n a\n#y\n: b", `(: l"a\n" #x/0 #y/0 p"b")`, ""}, {"? &a b #x\n: c", `(: &a p"b" #x/0 p"c")`, ""}, {"? a\n: b #x", `(: p"a" p"b" !#x)`, ""}, {"? a\n: | #x\n b", `(: p"a" l"b" !#x)`, ""}, {"? - a #x\n: b", `(: (- p"a" !#x) p"b")`, ""}, {"? - a #x\n  #y\n: b", `(: (- p"a" !#x) #y/0 p"b")`, ""}, {"? - #x\n: b", `(: (- p"" !#x) p"b")`, ""}, {"? - | #x\n   a\n: b", `(: (- l"a\n" !#x) p"b")`, ""}, {"? a: #x\n: b", `(: (: p"a" p"" !#x) p"b")`, ""}, {"? a: b\n#x\n: c", `(: (: p"a" p"b") #x/0 p"c")`, ""}, {"? ? a #x\n: b", `(: (: p"a" #x/0 p"") p"b")`, ""}, {"? ? a #x\n  #y\n: b", `(: (: p"a" #x/0 p"") #y/0 p"b")`, ""},
	// with an empty value
	{"? a #x\n:", `(: p"a" #x/0 p"")`, ""}, {"? a #x\n: #y\n#z", `(: p"a" #x/0 p"" !#y)`, "#z/0"}, {"? a #x\n#y\n:\n#z\nb:", `(: p"a" #x/0 #y/0 p"" #z/0 p"b" p"")`, ""}, {"? a\n: #x\nb: c", `(: p"a" p"" !#x p"b" p"c")`, ""}, {"? a\n:\n #x\n? b", `(: p"a" p"" #x/0 p"b" p"")`, ""},
	// without a colon
	{"? a #x", `(: p"a" #x/0 p"")`, ""}, {"? a\n#x", `(: p"a" p"")`, "#x/0"}, {"? a #x\n#y", `(: p"a" #x/0 p"")`, "#y/0"}, {"? a #x\n#y\nb: c", `(: p"a" #x/0 p"" #y/0 p"b" p"c")`, ""}, {"? a\n#x\n? b", `(: p"a" p"" #x/0 p"b" p"")`, ""}, {"? | #x\n a\n#y\n? b", `(: l"a\n" #x/0 p"" #y/0 p"b" p"")`, ""}, {"? [a] #x\n", `(: [p"a"] #x/0 p"")`, ""}, {"? - a #x\n#y\nb:", `(: (- p"a" !#x) p"" #y/0 p"b" p"")`, ""}, {"- ? a #x\n  #y\n- b", `(- (: p"a" #x/0 p"") #y/0 p"b")`, ""},
	// behind an empty key
	{"? #x\n: a", `(: p"" #x/0 p"a")`, ""}, {"?\n#x\n: #y\n  a", `(: p"" #x/0 #y/0 p"a")`, ""}, {"? #x\n#y\n: #z", `(: p"" #x/0 #y/0 p"" !#z)`, ""}, {"a: b\n#x\n? #y\n: c", `(: p"a" p"b" #x/0 p"" #y/0 p"c")`, ""}, {"? #x\n", `(: p"" p"")`, "#x/0"}, {"? #x\n#y\na: b", `(: p"" p"" #x/0 #y/0 p"a" p"b")`, ""}, {"? #x\n? #y\n  a", `(: p"" p"" #x/0 #y/0 p"a" p"")`, ""}, {"- ? #x\n- a", `(- (: p"" p"") #x/0 p"a")`, ""}, {"? &a #x\n: b", `(: &a p"" #x/0 p"b")`, ""}, {"? &a #x\nb: c", `(: &a p"" p"" #x/0 p"b" p"c")`, ""}, {"? #x\n  &a #y\n: b", `(: #x/0 &a p"" #y/0 p"b")`, ""}, {"? ? #x\n: a", `(: (: p"" p"") #x/0 p"a")`, ""},
	// between properties and what follows them
	{"&a #x\nb", `#x/0 &a p"b"`, ""}, {"#x\n&a #y\n\n#z\n'b' #u", `#x/0 #y/0 #z/1 &a s"b" !#u`, ""}, {"&a\n#x\n- b", `#x/0 &a (- p"b")`, ""}, {"#x\n&a #y\n- #z\n  b", `#x/0 #y/0 &a (- #z/0 p"b")`, ""}, {"&a #x\nb: c", `#x/0 &a (: p"b" p"c")`, ""}, {"#x\n&a\n #y\n? #z\n  b", `#x/0 #y/0 &a (: #z/0 p"b" p"")`, ""}, {"&a #x\n| #y\n b", `#x/0 &a l"b" !#y`, ""}, {"- &a #x\n  b", `(- #x/0 &a p"b")`, ""}, {"- #x\n  &a #y\n  - b", `(- #x/0 #y/0 &a (- p"b"))`, ""}, {"- a\n#x\n- #y\n  &b #z\n  c: d", `(- p"a" #x/0 #y/0 #z/0 &b (: p"c" p"d"))`, ""}, {"a: &b #x\n  c", `(: p"a" #x/0 &b p"c")`, ""}, {"a: #x\n  &b #y\n- c", `(: p"a" #x/0 #y/0 &b (- p"c"))`, ""}, {"? &a #x\n  b #y\n: &c #z\n  d", `(: #x/0 &a p"b" #y/0 #z/0 &c p"d")`, ""}, {"? a #x\n: #y\n  &b #z\n  [c]", `(: p"a" #x/0 #y/0 #z/0 &b [p"c"])`, ""},
	// of empty nodes with properties
	{"&a #x", `&a p"" !#x`, ""}, {"#x\n&a #y\n#z", `#x/0 &a p"" !#y`, "#z/0"}, {"!t\n#x", `!t p""`, "#x/0"}, {"- &a #x\n- b", `(- &a p"" !#x p"b")`, ""}, {"- &a\n  #x\n- b", `(- &a p"" #x/0 p"b")`, ""}, {"- #x\n  &a #y\n  #z\n- b", `(- #x/0 &a p"" !#y #z/0 p"b")`, ""}, {"- #x\n  &a\n- b", `(- #x/0 &a p"" p"b")`, ""}, {"a: &b #x\n#y\nc:", `(: p"a" &b p"" !#x #y/0 p"c" p"")`, ""}, {"a: #x\n &b #y\nc:", `(: p"a" #x/0 &b p"" !#y p"c" p"")`, ""}, {"? a #x\n: &b #y\n", `(: p"a" #x/0 &b p"" !#y)`, ""}, {"? a\n: #x\n  &b\n#y", `(: p"a" #x/0 &b p"")`, "#y/0"},
	// with blank rows
	{"- a\n\n#x\n\n- b", `(- p"a" #x/1 ^1 p"b")`, ""}, {"- a\n\n\n#x\n- b", `(- p"a" #x/2 p"b")`, ""}, {"a: b\n#x\n\n\nc: d", `(: p"a" p"b" #x/0 ^2 p"c" p"d")`, ""}, {"\n#x\n\na: b\n\n#y\n", `#x/1 (: ^1 p"a" p"b")`, "#y/1"}, {"a: b\n\n?\n\n #x\n\n c", `(: p"a" p"b" #x/1 ^1 p"c" p"")`, ""}, {"-\n\n#x\n\n  - a", `(- #x/1 (- ^1 p"a"))`, ""},
}

// besides are texts whose first three bytes are the --- of the root.
var besides = []struct{ s, want, rest string }{
	{"---", `p""`, ""}, {"--- ", `p""`, ""}, {"---\n", `p""`, ""}, {"---\n\n\t\n", `p""`, ""}, {"--- a", `p"a"`, ""}, {"---\ta\nb\n", `p"a b"`, ""}, {"--- a\n - b", `p"a - b"`, ""}, {"---   'a'\n", `s"a"`, ""}, {"--- *a", `*a`, ""}, {"--- [a,\nb]", `[p"a" p"b"]`, ""}, {"--- |\na\n", `l"a\n"`, ""}, {"--- >1\n a\n", `f"a\n"`, ""}, {"--- -a", `p"-a"`, ""}, {"---\na", `p"a"`, ""}, {"---\n- a\n- b", `(- p"a" p"b")`, ""}, {"---\n\n  a: b\n  c: d", `(: ^1 p"a" p"b" p"c" p"d")`, ""}, {"---\n? a\n: b", `(: p"a" p"b")`, ""}, {"---\n: a", `(: p"" p"a")`, ""}, {"---\n&a b: c", `(: &a p"b" p"c")`, ""}, {"--- &a", `&a p""`, ""}, {"--- &a b", `&a p"b"`, ""}, {"--- &a\nb", `&a p"b"`, ""}, {"--- &a\n- b", `&a (- p"b")`, ""}, {"--- &a !t\nb: c", `&a !t (: p"b" p"c")`, ""}, {"--- &a\n&b c: d", `&a (: &b p"c" p"d")`, ""}, {"---\n&a\n- b", `&a (- p"b")`, ""},
	{"--- #x", `p"" !#x`, ""}, {"--- #x\n#y", `p"" !#x`, "#y/0"}, {"---\n#x", `p""`, "#x/0"}, {"---\n\n #x\n", `p""`, "#x/1"}, {"--- #x\na", `#x/0 p"a"`, ""}, {"---\t#x\n#y\n- a #z\n#u", `#x/0 #y/0 (- p"a" !#z)`, "#u/0"}, {"--- #x\n  a: #y\n    b", `#x/0 (: p"a" #y/0 p"b")`, ""}, {"--- a #x\n#y", `p"a" !#x`, "#y/0"}, {"--- | #x\n a\n#y", `l"a\n" !#x`, "#y/0"}, {"--- &a #x", `&a p"" !#x`, ""}, {"--- #x\n&a #y\n#z", `#x/0 &a p"" !#y`, "#z/0"}, {"--- &a #x\n- b", `#x/0 &a (- p"b")`, ""}, {"--- #x\n&a #y\nb: c", `#x/0 #y/0 &a (: p"b" p"c")`, ""}, {"--- # a\n- b\n# c\n", `# a/0 (- p"b")`, "# c/0"},
}

// refused are texts with what is wrong with them, and where; those in besides begin with the --- of the root.
var refused = []struct {
	s    string
	at   int
	code api.Errno
}{
	// beside the colon of a key
	{"a: b: c", 3, api.ErrForm}, {"a: - b", 3, api.ErrForm}, {"a: ? b", 3, api.ErrForm}, {"a: : b", 3, api.ErrForm}, {"a:   b:", 5, api.ErrForm}, {"a: -", 3, api.ErrForm}, {"a: &b c: d", 3, api.ErrForm}, {"a: &b : c", 3, api.ErrForm}, {"a: \"b\": c", 3, api.ErrForm}, {"a: [b]: c", 3, api.ErrForm}, {"a: *b : c", 3, api.ErrForm}, {"a:\t- b", 3, api.ErrForm}, {"- a: b: c", 5, api.ErrForm}, {"? a: b: c", 5, api.ErrForm}, {"a:\n  b: - c", 8, api.ErrForm}, {": : a", 2, api.ErrForm}, {"a:: b: c", 4, api.ErrForm},
	// White with a tab
	{"-\t- a", 1, api.ErrTab}, {"- \t - a", 2, api.ErrTab}, {"-  \t? a", 3, api.ErrTab}, {"-\ta: b", 1, api.ErrTab}, {"-\t\ta:", 1, api.ErrTab}, {"-\t&a b: c", 1, api.ErrTab}, {"-\t: a", 1, api.ErrTab}, {"- -\t- a", 3, api.ErrTab}, {"?\t- a", 1, api.ErrTab}, {"? \ta: b", 2, api.ErrTab}, {"?\t? a", 1, api.ErrTab}, {"? a\n:\t- b", 5, api.ErrTab}, {"? a\n: \t? b", 6, api.ErrTab}, {"? a\n:\tb: c", 5, api.ErrTab}, {"\ta", 0, api.ErrTab}, {" \ta", 1, api.ErrTab}, {"\n\t- a", 1, api.ErrTab}, {"a:\n\tb", 3, api.ErrTab}, {"a:\n \tb", 4, api.ErrTab}, {"a: b\n\tc: d", 5, api.ErrTab}, {"a: 'b'\n\t c", 7, api.ErrTab}, {"- a\n\t- b", 4, api.ErrTab}, {"-\n\ta", 2, api.ErrTab}, {"&a\n\tb", 3, api.ErrTab}, {"- &a\n \tb", 6, api.ErrTab}, {"'a'\n\tb", 4, api.ErrTab}, {"|\n a\n\tb", 5, api.ErrTab}, {"? a\n\t: b", 4, api.ErrTab}, {"? a\n #x\n \t: b", 9, api.ErrTab}, {"#x\n\ta", 3, api.ErrTab},
	// further in than the collection
	{"- 'a'\n  - b", 8, api.ErrForm}, {"- [a]\n b", 7, api.ErrForm}, {"-\n  - a\n - b", 9, api.ErrForm}, {"- - 'a'\n   - b", 11, api.ErrForm}, {"- 'a'\n b: c", 7, api.ErrForm}, {"- |\n  a\n b", 9, api.ErrForm}, {"- a #x\n  b", 9, api.ErrForm}, {"a: 'b'\n c: d", 8, api.ErrForm}, {"a: 'b'\n c", 8, api.ErrForm}, {"a:\n  b: c\n d: e", 11, api.ErrForm}, {"a: [b]\n - c", 8, api.ErrForm}, {"a: b #x\n c", 9, api.ErrForm}, {"? a\n : b", 5, api.ErrForm}, {"? 'a'\n b", 7, api.ErrForm}, {"? a\n: 'b'\n : c", 11, api.ErrForm}, {"? - a\n : b", 7, api.ErrForm}, {"a:\n- b\n c: d", 9, api.ErrForm}, {"a:\n- 'b'\n - c", 10, api.ErrForm}, {"- &a 'b'\n  c", 11, api.ErrForm},
	// at the column of the collection, or ahead of it
	{"- a\nb", 4, api.ErrForm}, {"- a\nb: c", 4, api.ErrForm}, {"- a\n-b", 4, api.ErrForm}, {"- a\n? b", 4, api.ErrForm}, {"- a\n: b", 4, api.ErrForm}, {"a: b\nc", 5, api.ErrForm}, {"a: b\n- c", 5, api.ErrForm}, {"a: b\n'c'", 5, api.ErrForm}, {"a: b\n&c d", 5, api.ErrForm}, {"a: b\n&c &d e: f", 5, api.ErrForm}, {"a: b\n?c", 5, api.ErrForm}, {"a:\n- b\nc", 7, api.ErrForm}, {"? a\nb", 4, api.ErrForm}, {"? a\n- b", 4, api.ErrForm}, {"? a\n: b\n- c", 8, api.ErrForm}, {" - a\n- b", 5, api.ErrForm}, {" a: b\nc: d", 6, api.ErrForm}, {" ? a\n: b", 5, api.ErrForm}, {"  - a\n - b", 7, api.ErrForm}, {"a:\n    - b\n  - c", 13, api.ErrForm}, {"a:\n  b:\n  - c\n - d", 15, api.ErrForm}, {"- a: b\n c: d", 8, api.ErrForm}, {"- ? a\n : b", 7, api.ErrForm}, {"a: b\nc #d: e", 5, api.ErrForm}, {"a: b\n\"c\n d\": e", 5, api.ErrForm},
	// behind the root
	{"'a'\nb", 4, api.ErrForm}, {"[a]\n- b", 4, api.ErrForm}, {"*a\nb: c", 3, api.ErrForm}, {"|\n a\nb", 5, api.ErrForm}, {"a #x\nb", 5, api.ErrForm}, {"&a\n'b'\nc", 7, api.ErrForm}, {"{}\n\n#x\n {}", 8, api.ErrForm},
	// behind a content in its row
	{"\"a\" b", 4, api.ErrForm}, {"\"a\"b", 3, api.ErrForm}, {"'a' 'b'", 4, api.ErrForm}, {"'a'#x", 3, api.ErrForm}, {"[a]b", 3, api.ErrForm}, {"[a] [b]", 4, api.ErrForm}, {"{}}", 2, api.ErrForm}, {"[]#x", 2, api.ErrForm}, {"*a b", 3, api.ErrForm}, {"*a]", 2, api.ErrForm}, {"*a, b", 2, api.ErrForm}, {"'a\n b' c", 7, api.ErrForm}, {"[a\n]: b", 4, api.ErrForm}, {"\"a\n\": b", 4, api.ErrForm}, {"- 'a' b", 6, api.ErrForm}, {"a: 'b'c", 6, api.ErrForm}, {"a: [b] c", 7, api.ErrForm}, {"? 'a' b", 6, api.ErrForm}, {"? a\n: 'b' c", 10, api.ErrForm}, {"&a 'b' c", 7, api.ErrForm}, {"&a\n'b' c", 7, api.ErrForm}, {"\"a\":b", 3, api.ErrForm}, {"a: |x", 4, api.ErrForm}, {"a: | x", 5, api.ErrForm}, {"a: >#x", 4, api.ErrForm},
	// what begins no node
	{"%a", 0, api.ErrForm}, {"@a", 0, api.ErrForm}, {"`a", 0, api.ErrForm}, {",a", 0, api.ErrForm}, {"]", 0, api.ErrForm}, {"}a: b", 0, api.ErrForm}, {"- ,", 2, api.ErrForm}, {"a: @b", 3, api.ErrForm}, {"a: %b", 3, api.ErrForm}, {"a:\n  `b", 5, api.ErrForm}, {"? ]", 2, api.ErrForm}, {"*", 0, api.ErrForm}, {"- * a", 2, api.ErrForm}, {"%a: b", 0, api.ErrForm}, {"- %a: b", 2, api.ErrForm},
	// properties
	{"&", 0, api.ErrForm}, {"& a", 0, api.ErrForm}, {"&a &b c", 3, api.ErrForm}, {"!t !u", 3, api.ErrForm}, {"&a &b c: d", 3, api.ErrForm}, {"&a,b", 2, api.ErrForm}, {"!t\"a\"", 2, api.ErrForm}, {"&a *b", 3, api.ErrForm}, {"&a *b : c", 3, api.ErrForm}, {"&a\n*b", 3, api.ErrForm}, {"&a #x\n *b", 7, api.ErrForm}, {"&a *", 3, api.ErrForm}, {"&a - b", 3, api.ErrForm}, {"&a ? b", 3, api.ErrForm}, {"- &a - b", 5, api.ErrForm}, {"- &a ? b", 5, api.ErrForm}, {"&a\n&b c", 3, api.ErrForm}, {"&a\n&b", 3, api.ErrForm}, {"&a\n!t b", 3, api.ErrForm}, {"&a\n!t\nb: c", 3, api.ErrForm}, {"&a\n&b - c", 3, api.ErrForm}, {"&a\n&b &c d: e", 3, api.ErrForm}, {"&a\n& b: c", 3, api.ErrForm}, {"- &a\n  !t b", 7, api.ErrForm}, {"a: &b\n &c d", 7, api.ErrForm}, {"&a ,", 3, api.ErrForm}, {"&a\n%b", 3, api.ErrForm}, {"&a b\nc: d", 6, api.ErrForm}, {"- &a\n- *b c", 10, api.ErrForm}, {"&a @b: c", 3, api.ErrForm},
	// of other packages
	{"a\nb: c", 3, api.ErrForm}, {"a: b\n c: d", 7, api.ErrForm}, {"- a\n b : c", 7, api.ErrForm}, {"\"a", 2, api.ErrForm}, {"'a\n---\n'", 3, api.ErrForm}, {"\"\\z\"", 1, api.ErrForm}, {"\"\\z\": a", 1, api.ErrForm}, {"a: 'b\nc'", 6, api.ErrForm}, {"a: \"b\n c", 8, api.ErrForm}, {"[a", 2, api.ErrForm}, {"[a: b", 5, api.ErrForm}, {"[a,,b]: c", 3, api.ErrForm}, {"a: [b\nc]", 6, api.ErrForm}, {"- [a,\n b\n]", 9, api.ErrForm}, {"a: [b,\n---", 7, api.ErrForm}, {"|\n   \n a", 3, api.ErrForm}, {"- |\n   \n  a", 6, api.ErrForm}, {"- |1\n a\nb", 8, api.ErrForm}, {"? 'a\n: b'", 5, api.ErrForm},
}

// refusedBeside are texts that begin with the --- of the root.
var refusedBeside = []struct {
	s    string
	at   int
	code api.Errno
}{
	{"--- a: b", 4, api.ErrForm}, {"--- - a", 4, api.ErrForm}, {"--- ? a", 4, api.ErrForm}, {"--- : a", 4, api.ErrForm}, {"---   a:", 6, api.ErrForm}, {"---\t- a", 4, api.ErrForm}, {"--- &a b: c", 4, api.ErrForm}, {"--- 'a': b", 4, api.ErrForm}, {"--- [a]: b", 4, api.ErrForm}, {"--- a\nb: c", 7, api.ErrForm}, {"--- 'a'\nb", 8, api.ErrForm}, {"---\n\ta", 4, api.ErrTab}, {"--- &a - b", 7, api.ErrForm}, {"--- &a *b", 7, api.ErrForm}, {"--- &a\n&b c", 7, api.ErrForm}, {"--- 'a' b", 8, api.ErrForm}, {"--- %a", 4, api.ErrForm}, {"---\n%a", 4, api.ErrForm}, {"--- |\n a\nb: c", 9, api.ErrForm}, {"---\n a: b\nc: d", 10, api.ErrForm}, {"--- #x\na\n#y\nb", 12, api.ErrForm},
}

// keys are texts, with the offset of the colon of the key with which they begin, or -1.
var keys = []struct {
	s    string
	want int
}{
	// the chapter's example
	{"a b: c", 3},
	// plain
	{"a:", 1}, {"a: ", 1}, {"a:\t", 1}, {"a:\n", 1}, {"a :", 2}, {"a \t : b", 4}, {"a b c:", 5}, {"a:b:", 3}, {"a::", 2}, {"a: b: c", 1}, {"-a:", 2}, {"?a:", 2}, {":a:", 2}, {"-:", 1}, {"::", 1}, {"?: a", 1}, {"a#b:", 3}, {"a,b]}:", 5}, {"é:", 2}, {"a\"b':", 4}, {"a &b *c:", 7}, {"--- :", 4}, {"...:", 3}, {"\xff\x00:", 2}, {"a - b:", 5},
	{"", -1}, {"a", -1}, {"a b", -1}, {"a:b", -1}, {"a :b", -1}, {"a\n:", -1}, {"a\nb:", -1}, {"\na:", -1}, {"- a:", -1}, {"- :", -1}, {"-\t:", -1}, {"? a:", -1}, {"? :", -1}, {"a #b:", -1}, {"a\t# :", -1}, {"a #:", -1}, {"#a:", -1}, {"%a:", -1}, {"@a:", -1}, {"|:", -1}, {"| :", -1}, {"|\n:", -1}, {">-:", -1}, {",:", -1}, {"]:", -1}, {"`a:", -1}, {"-", -1}, {"?", -1},
	// nothing
	{":", 0}, {": a", 0}, {":\n", 0}, {":\t", 0}, {":a", -1}, {":,", -1}, {"\n:", -1},
	// quoted
	{"'a':", 3}, {"\"a\" : b", 4}, {"'':", 2}, {"\"\":", 2}, {"'a''b':", 6}, {"'a: b': c", 6}, {"\"\\\"\\x41\": a", 8}, {"' #a':", 5}, {"\"\\\t\": a", 4},
	{"'a'", -1}, {"'a' b:", -1}, {"'a'b:", -1}, {"'a'#:", -1}, {"'a' #:", -1}, {"'a':b", -1}, {"'a\n':", -1}, {"\"a\n b\": c", -1}, {"'a:", -1}, {"'a'':", -1}, {"\"a\\\":", -1}, {"\"\\z\":", -1}, {"\"a\\\n\":", -1}, {"'a'\n:", -1}, {"\"\\ud800\":", -1}, {"\"\\U00110000\": a", -1},
	// aliases
	{"*a :", 3}, {"*a\t: b", 3}, {"*a: :", 4}, {"*a:", -1}, {"*a: b", -1}, {"*a", -1}, {"* :", -1}, {"*a b:", -1}, {"*a\n:", -1}, {"*a, :", -1}, {"*a]:", -1},
	// collections
	{"[]:", 2}, {"{} : a", 3}, {"[a, b]: c", 6}, {"[a: b]:", 6}, {"{a: [b]}:", 8}, {"[[[]]]\t:", 7}, {"[a, 'b', *c]: d", 12},
	{"[]", -1}, {"[a", -1}, {"[a:", -1}, {"[a]:b", -1}, {"[a] b:", -1}, {"[a]b:", -1}, {"[a\n]:", -1}, {"[\n]:", -1}, {"[a]\n:", -1}, {"[a,,b]:", -1}, {"[a}:", -1}, {"[#a]:", -1}, {"[a, #b]:\n]:", -1}, {"[&a *b]:", -1}, {"[-]:", -1}, {"{a: \"b}:", -1},
	// properties
	{"&a b:", 4}, {"&a !t b: c", 7}, {"!t\t&a\tb :", 8}, {"&a :", 3}, {"!t \t:", 4}, {"&a 'b':", 6}, {"!t [a]:", 6}, {"! a:", 3}, {"!!t a:", 5}, {"!<t> a:", 6}, {"&a: b:", 5}, {"!t: :", 4}, {"&a -b:", 5},
	{"&a", -1}, {"&a b", -1}, {"&a:", -1}, {"!t:", -1}, {"&a\n:", -1}, {"&a\nb:", -1}, {"&a &b c:", -1}, {"!t !u a:", -1}, {"& a:", -1}, {"&a *b :", -1}, {"!t *b :", -1}, {"&a - :", -1}, {"&a ? :", -1}, {"&a #b:", -1}, {"&a,b:", -1}, {"!t\"a\": b", -1}, {"&a |:", -1}, {"a &b:", 4}, {"a !t :", 5},
}

// samples are all the texts above.
func samples() (all []string) {
	for _, c := range documents {
		all = append(all, c.s)
	}
	for _, c := range slices.Concat(commented, besides) {
		all = append(all, c.s)
	}
	for _, c := range slices.Concat(refused, refusedBeside) {
		all = append(all, c.s)
	}
	for _, c := range keys {
		all = append(all, c.s)
	}
	return all
}

// ends are rows in front of which a document ends.
var ends = []string{"---", "--- a", "---\n- a", "...", "...\n", "... #y", "--- : a", "... : a"}

// chomped are roots with a block scalar at their end, of which the line feed is that ends s.
var chomped = regexp.MustCompile(`(?:^|[ (])[lf]"[^"]*"(?: !#[^)]*)?\)*$`)

// checkRead holds a document to what it is, also ahead of another one.
func checkRead(t *testing.T, s string, at int, beside bool, root, rest string) {
	t.Helper()
	one := func(text string, to int) {
		t.Helper()
		node, notes, end, e := tree.Read(text, at, beside)
		if show(node) != root || list(notes) != rest || end != to || e != api.OK {
			t.Errorf("Read(%q, %d, %v) = %s, %s, %d, %d, want %s, %s, %d", text, at, beside, show(node), list(notes), end, e, root, rest, to)
		}
	}
	one(s, len(s))
	if !strings.HasSuffix(s, "\n") && at < len(s) {
		if chomped.MatchString(root) {
			return
		}
		s += "\n"
	}
	for _, behind := range ends {
		if strings.HasSuffix(s, "\n") {
			one(s+behind, len(s))
		}
	}
}

// 17.2 to 17.9: what a document contains, up to the end of s and up to a row that is --- or ....
func TestRead(t *testing.T) {
	for _, c := range documents {
		checkRead(t, c.s, 0, false, c.want, "")
		// below a --- all is the same
		checkRead(t, "---\n"+c.s, 3, true, c.want, "")
	}
	for _, c := range commented {
		checkRead(t, c.s, 0, false, c.want, c.rest)
		checkRead(t, "---\n"+c.s, 3, true, c.want, c.rest)
	}
	for _, c := range besides {
		checkRead(t, c.s, 3, true, c.want, c.rest)
	}
	// whatever stands ahead of the place
	for _, c := range documents {
		for _, before := range []string{"a\n", "\"\n", "[\n- \n", "--- a\n...\n", "é\xff\n"} {
			checkRead(t, before+c.s, len(before), false, c.want, "")
		}
	}
}

// 17.3, 17.9: the first byte of each node, or -1: of the root, of its first item or key, of its kids, and so on.
func TestPlaces(t *testing.T) {
	for _, c := range []struct {
		s    string
		want []int
	}{
		{"", []int{-1}}, {"#x\n", []int{-1}}, {"\n\n a", []int{3}}, {"#x\n'a'", []int{3}}, {" *a", []int{1}}, {"|\n a", []int{0}}, {" [ a]", []int{1, 3}}, {"é: a", []int{0, 0, 4}},
		{"- a", []int{0, 2}}, {"-", []int{0, -1}}, {" -\n  a\n -", []int{1, 5, -1}}, {"- - a\n  -\n- b", []int{0, 2, 4, -1, 12}}, {"- |\n a", []int{0, 2}}, {"-\n  #x\n  - a", []int{0, 9, 11}},
		{"a: b", []int{0, 0, 3}}, {" a : b\n c:", []int{1, 1, 5, 8, -1}}, {": a", []int{0, -1, 2}}, {":", []int{0, -1, -1}}, {"a:\n- b", []int{0, 0, 3, 5}}, {"a:\n  b: c", []int{0, 0, 5, 5, 8}}, {"- a: b\n  : c", []int{0, 2, 2, 5, -1, 11}}, {"[a]: b", []int{0, 0, 1, 5}}, {"'a': *b", []int{0, 0, 5}},
		{"? a", []int{0, 2, -1}}, {" ? a\n : b", []int{1, 3, 8}}, {"?\n:", []int{0, -1, -1}}, {"? - a\n: b: c", []int{0, 2, 4, 8, 8, 11}}, {"?\n- a\n:\n- b", []int{0, 2, 4, 8, 10}},
		{"&a b", []int{0}}, {" !t &a", []int{1}}, {"&a\n b", []int{0}}, {"&a #x\n|\n b", []int{0}}, {"&a [b]", []int{0, 4}}, {"&a\n- b", []int{0, 5}}, {"&a\nb: c", []int{0, 3, 6}}, {"&a b: c", []int{0, 0, 6}}, {"&a : b", []int{0, 0, 5}}, {"&a\n&b c: !t", []int{0, 3, 9}}, {"- &a\n  - b", []int{0, 2, 9}}, {"- &a\n- !t", []int{0, 2, 7}}, {"a: &b\n- c", []int{0, 0, 3, 8}}, {"a: &b\nc:", []int{0, 0, 3, 6, -1}}, {"? &a\n: !t\n  b: c", []int{0, 2, 7, 12, 15}}, {"- &a b: c\n  &d : e", []int{0, 2, 2, 8, 12, 17}},
	} {
		for _, before := range []string{"", "\n", "a\n", "...\n\n", "é \n"} {
			want := slices.Clone(c.want)
			for i := range want {
				if want[i] >= 0 {
					want[i] += len(before)
				}
			}
			s := before + c.s
			if node, _, to, e := tree.Read(s, len(before), false); !slices.Equal(places(node), want) || to != len(s) || e != api.OK {
				t.Errorf("Read(%q, %d, false) has the places %v, %d, %d, want %v", s, len(before), places(node), to, e, want)
			}
		}
	}
}

// checkRefused holds one place in s to a code, with nothing beside it.
func checkRefused(t *testing.T, s string, at int, beside bool, wrong int, code api.Errno) {
	t.Helper()
	if node, rest, to, e := tree.Read(s, at, beside); !same(node, api.Node{}) || len(rest) > 0 || to != wrong || e != code {
		t.Errorf("Read(%q, %d, %v) = %s, %s, %d, %d, want %d at %d", s, at, beside, show(node), list(rest), to, e, code, wrong)
	}
}

// 17.2 to 17.5, 17.9: what may not stand at its place, whatever stands above.
func TestRefused(t *testing.T) {
	for _, c := range refused {
		for _, before := range []string{"", "\n", "a\n...\n", "#\n\n", "&a\n"} {
			checkRefused(t, before+c.s, len(before), false, len(before)+c.at, c.code)
			s := "---\n" + c.s
			checkRefused(t, before+s, len(before)+3, true, len(before)+4+c.at, c.code)
		}
	}
	for _, c := range refusedBeside {
		for _, before := range []string{"", "\n", "a\n...\n", "#\n\n", "&a\n"} {
			checkRefused(t, before+c.s, len(before)+3, true, len(before)+c.at, c.code)
		}
	}
	// the same in collections, as far as that is wrong for its place in the row alone
	for _, c := range []struct {
		s    string
		at   int
		code api.Errno
	}{{"a: b: c", 3, api.ErrForm}, {"-\t- a", 1, api.ErrTab}, {"&a - b", 3, api.ErrForm}, {"'a' b", 4, api.ErrForm}, {"%a", 0, api.ErrForm}, {"&a *b", 3, api.ErrForm}, {"[a,,b]", 3, api.ErrForm}} {
		for _, before := range []string{"- ", "? ", "? a\n: ", "- - ", "a:\n  ", "a:\n- ", "-\n ", "? ? ", "- ? ", "a:\n b:\n  "} {
			checkRefused(t, before+c.s, 0, false, len(before)+c.at, c.code)
			checkRefused(t, before+c.s+"\n...", 0, false, len(before)+c.at, c.code)
		}
	}
}

// 17.1: the colon of a key, whatever stands ahead of the place and below its row.
func TestKey(t *testing.T) {
	for _, c := range keys {
		for _, before := range []string{"", "- ", "\n", "a\n\n", "[", "a: ", "\"", "é", "\xff"} {
			for _, after := range []string{"", "\n", "\nb: c", "\n#", "\n\"']"} {
				s, at := before+c.s+after, len(before)
				if before == "[" && c.s == "" || c.s == "" && after == "" {
					continue
				}
				want := max(c.want, -at-1) + at
				if c.want < 0 {
					want = 0
				}
				if got, ok := tree.Key(s, at); got != want || ok != (c.want >= 0) {
					t.Errorf("Key(%q, %d) = %d, %v, want %d, %v", s, at, got, ok, want, c.want >= 0)
				}
			}
		}
	}
	for _, at := range []int{math.MinInt, -2, -1, 2, 3, math.MaxInt} {
		if got, ok := tree.Key("a:", at); got != 0 || ok {
			t.Errorf("Key(%q, %d) = %d, %v", "a:", at, got, ok)
		}
	}
	// of collections in brackets, forty may contain one another
	for _, c := range [][2]string{{"[", "]"}, {"{", "}"}, {"[a, ", "]"}, {"{? ", "}"}} {
		open, shut := strings.Repeat(c[0], api.MaxDeep), strings.Repeat(c[1], api.MaxDeep)
		if got, ok := tree.Key(open+shut+": a", 0); got != len(open+shut) || !ok {
			t.Errorf("Key(%q, 0) = %d, %v", open+shut+": a", got, ok)
		}
		if got, ok := tree.Key(open+"[]"+shut+": a", 0); got != 0 || ok {
			t.Errorf("Key(%q, 0) = %d, %v", open+"[]"+shut+": a", got, ok)
		}
	}
}

// 17.1: a key that ends a scalar, an alias or a collection is the one that these packages read.
func TestKeyParts(t *testing.T) {
	parts := []string{"a", " ", ":", "#", "'", "\"", "[", "]", "&b", "*", "!", ",", "\\", "\n", "-", "?"}
	var every func(string, int)
	every = func(s string, n int) {
		checkKey(t, s, 0)
		if n == 0 || strings.Contains(s, "\n") {
			return
		}
		for _, p := range parts {
			every(s+p, n-1)
		}
	}
	every("", 5)
	for _, s := range samples() {
		for at := -2; at <= len(s)+2; at++ {
			checkKey(t, s, at)
		}
	}
	for i := range 0x100 {
		for j := range 0x100 {
			two := string([]byte{byte(i), byte(j)})
			for _, s := range []string{two + ":", two + ": ", "a" + two + ": b", "&a" + two + "b: c", "\"" + two + "\": a", "'a'" + two, "\"\\" + two + "\": a", "a" + two} {
				checkKey(t, s, 0)
			}
		}
	}
}

// 17.6: block collections and those in brackets that too many others contain.
func TestDeep(t *testing.T) {
	for _, c := range []struct {
		s     string
		count int // of collections that contain one another in it
		at    int // the first byte of the last of these, as far as that is too deep
	}{
		{"- a", 1, 0}, {"-", 1, 0}, {"a: b", 1, 0}, {"? a", 1, 0}, {": a", 1, 0}, {"&a b: c", 1, 0}, {"'a': b", 1, 0}, {"*a : b", 1, 0}, {"[a]", 1, 0}, {"{}", 1, 0}, {"&a [b]", 1, 3}, {"- - a", 2, 2}, {"- a: b", 2, 2}, {"- ? a", 2, 2}, {"- [a]", 2, 2}, {"? [a]", 2, 2}, {"? - a", 2, 2}, {"? a: b", 2, 2}, {"a: [b]", 2, 3}, {"[a]: b", 2, 0}, {"&a [b]: c", 2, 3}, {"{}: a", 2, 0}, {"a: {b: c}", 2, 3}, {"a: [b: c]", 3, 4}, {"[a: b]: c", 3, 1}, {"[[a]]: b", 3, 1}, {"[[a]]", 2, 1}, {"? a : [b]", 3, 6}, {"- [a, [b: c]]", 4, 7}, {"- &a [b]", 2, 5}, {"- &a b: c", 2, 2},
	} {
		for _, beside := range []string{"- ", "? ", "- ? ", "? - "} {
			within := strings.Count(beside, " ")
			for n := api.MaxDeep - 6; n <= api.MaxDeep+1; n += within {
				s := strings.Repeat(beside, n/within) + c.s
				outer := len(s) - len(c.s)
				deepest := n/within*within + c.count
				if deepest <= api.MaxDeep {
					if _, _, to, e := tree.Read(s, 0, false); to != len(s) || e != api.OK {
						t.Errorf("Read(%q, 0, false) = %d, %d", s, to, e)
					}
				} else if deepest == api.MaxDeep+1 {
					checkRefused(t, s, 0, false, outer+c.at, api.ErrDeep)
				}
			}
		}
	}
	below := func(n int, indicator string, end string) (s string) {
		for i := range n {
			s += strings.Repeat(" ", i) + indicator + "\n"
		}
		return s + strings.Repeat(" ", n) + end
	}
	for _, indicator := range []string{"-", "?", "a:", ":", "&a b:", "- &a", "a: !t"} {
		for _, end := range []string{"a", "", "'a'", "|"} {
			s := below(api.MaxDeep, indicator, end)
			if _, _, to, e := tree.Read(s, 0, false); to != len(s) || e != api.OK {
				t.Errorf("Read(%q, 0, false) = %d, %d", s, to, e)
			}
		}
		for _, end := range []string{"- a", "? a", "a: b", "[]", "{a: b}", ": a", "&a b: c", "[]: b", "- , "} {
			s := below(api.MaxDeep, indicator, end)
			checkRefused(t, s, 0, false, len(s)-len(end), api.ErrDeep)
			if !strings.Contains(indicator, " ") {
				s = below(api.MaxDeep, indicator, "&b\n"+strings.Repeat(" ", api.MaxDeep)+end)
				checkRefused(t, s, 0, false, len(s)-len(end), api.ErrDeep)
			}
		}
	}
	// each in the value of the one around it, behind a query
	for _, end := range []string{"a", "", "- a", "? a", "a: b", "[a]", ": a"} {
		s, col := "", 0
		for range api.MaxDeep {
			s += "? a\n" + strings.Repeat(" ", col) + ": "
			col += 2
		}
		if len(end) < 2 {
			if _, _, to, e := tree.Read(s+end, 0, false); to != len(s+end) || e != api.OK {
				t.Errorf("Read(%q, 0, false) = %d, %d", s+end, to, e)
			}
		} else {
			checkRefused(t, s+end, 0, false, len(s), api.ErrDeep)
		}
	}
	dash := strings.Repeat("- ", api.MaxDeep)
	for _, c := range []struct {
		s    string
		at   int
		code api.Errno
	}{
		{dash + ",", 80, api.ErrForm}, {dash[1:] + "- a", 0, api.ErrTab}, {dash[2:] + "-\t- a", 79, api.ErrTab}, {dash[2:] + "a: b: c", 81, api.ErrForm}, {dash[2:] + "a: - b", 81, api.ErrForm}, {dash[2:] + "a: [b", 81, api.ErrDeep}, {dash + "- ,", 80, api.ErrDeep}, {dash + "[", 80, api.ErrDeep}, {dash + "a: [,", 80, api.ErrDeep}, {dash[4:] + "a:\n" + strings.Repeat(" ", 76) + "- - b", 155 + 2, api.ErrDeep}, {dash + "&a - b", 83, api.ErrForm}, {dash + "&a [b]", 83, api.ErrDeep}, {strings.Repeat("[", 41) + ": a", 40, api.ErrDeep}, {strings.Repeat("[", 41) + strings.Repeat("]", 41) + ": a", 40, api.ErrDeep}, {"a: b\n" + strings.Repeat("[", 41) + strings.Repeat("]", 41) + ": a", 5, api.ErrForm}, {"a: b\n" + strings.Repeat("[", 40) + strings.Repeat("]", 40) + ": a", 44, api.ErrDeep},
	} {
		s := c.s
		if c.code == api.ErrTab && c.at == 0 {
			s = "\t" + s
		}
		checkRefused(t, s, 0, false, c.at, c.code)
	}
}

// 17.1 to 17.9: the samples and the chapter's words agree, in every place.
func TestSamples(t *testing.T) {
	for _, s := range samples() {
		for _, before := range []string{"", "\n", "- ", "a:\n  ", "? ", "--- ", "&a ", "a: b\n", "#x\n"} {
			check(t, before+s)
		}
		for _, before := range []string{"- ", "?\n ", "a:\n "} {
			// the same text further in
			check(t, before+strings.ReplaceAll(s, "\n", "\n  "))
		}
	}
}

// 17.9, 17.11: any place may be handed in.
func TestFarPlaces(t *testing.T) {
	for _, s := range samples() {
		for _, at := range []int{math.MinInt, math.MinInt + 1, math.MinInt32, -2, -1, len(s) + 1, 2*len(s) + 2, math.MaxInt32, math.MaxInt - 1, math.MaxInt} {
			for _, beside := range []bool{false, true} {
				node, rest, to, e := tree.Read(s, at, beside)
				again, more, end, code := tree.Read(s, min(max(at, 0), len(s)), beside)
				if !same(node, again) || !slices.Equal(rest, more) || to != end || e != code {
					t.Errorf("Read(%q, %d, %v) = %s, %s, %d, %d, want %s, %s, %d, %d", s, at, beside, show(node), list(rest), to, e, show(again), list(more), end, code)
				}
				checkAt(t, s, at, beside)
			}
			if colon, ok := tree.Key(s, at); colon != 0 || ok {
				t.Errorf("Key(%q, %d) = %d, %v", s, at, colon, ok)
			}
		}
	}
}

// 17.1 to 17.9, 17.11: every text of so many parts of those of which documents are made.
func TestEveryText(t *testing.T) {
	t.Parallel()
	for _, c := range []struct {
		parts []string
		most  int
	}{
		{[]string{"- ", "? ", ": ", "a", "\n", " ", "#x"}, 7},
		{[]string{"-", "?", ":", "a", "\n", " "}, 7},
		{[]string{"- ", "?\n", ":\n", "a:", "b", "\n  ", "\n", " #x"}, 6},
		{[]string{"-\n", "? ", ": ", "&a ", "b", "\n", " ", " #x\n"}, 6},
		{[]string{"- ", "? ", ":", "&a", "!t ", "b", "\n", "\n ", " "}, 5},
		{[]string{"- ", "a: ", "[", "]", "'", "\"b\"", "|", "*c ", "\n", " ", "#"}, 5},
		{[]string{"-", "a:", "\t", " ", "\n", "b", "#x", "---", "...", "|\n", "!"}, 5},
	} {
		grow("", c.parts, c.most, func(s string) (int, bool) { return checkAt(t, s, 0, false) })
		grow("", c.parts, c.most-1, func(s string) (int, bool) { return checkAt(t, s, 0, true) })
	}
	for _, s := range []string{"? a", "- b\n", "a:", "- &a", "? | #x\n", "- a:\n  - b\n", "&a #x\n", "? - a\n", "a: b #x\n"} {
		grow(s, []string{"- ", "? ", ": ", "a:", "b", "\n", " ", " #x\n", "&c "}, 5, func(s string) (int, bool) { return checkAt(t, s, 0, false) })
	}
	var every func(string, int)
	every = func(s string, n int) { // in every place, and also of parts below what is wrong
		check(t, s)
		for _, p := range []string{"- ", "? ", ":", " ", "a", "\n", "&b", "#", "---"} {
			if n > 0 {
				every(s+p, n-1)
			}
		}
	}
	every("", 4)
}

// 17.1 to 17.9, 17.11: every byte, and runes of which one byte is an indicator's, within each of the samples and in the place of each of their bytes; and each sample cut, without one of its bytes, and with one twice.
func TestEveryByte(t *testing.T) {
	t.Parallel()
	var all, few []string
	for i := range 0x100 {
		all = append(all, string([]byte{byte(i)}))
	}
	for _, c := range "\t\n -?:#,[]{}&*!|>'\"%a\\\x00" {
		few = append(few, string(c))
	}
	for _, c := range "\t\n -?:#&!" {
		few = append(few, string(0x100+c))
	}
	for _, s := range samples() {
		others := few
		if len(s) < 6 {
			others = append(all, few...)
		}
		for i := range len(s) + 1 {
			behind := s[min(i+1, len(s)):]
			for _, k := range []string{s[:i], s[:i] + behind, s[:min(i+1, len(s))] + s[i:]} {
				checkAt(t, k, 0, false)
			}
			for _, o := range others {
				checkAt(t, s[:i]+o+behind, 0, false)
				checkAt(t, s[:i]+o+s[i:], 0, false)
				checkKey(t, s[:i]+o+s[i:], 0)
			}
			if strings.HasPrefix(s, "---") && i >= 3 {
				for _, o := range others {
					checkAt(t, s[:i]+o+behind, 3, true)
					checkAt(t, s[:i]+o+s[i:], 3, true)
				}
			}
		}
	}
}

// 17.10 (W1): there is a document, behind which none goes on, or a code at a place from at on with nothing beside it.
func TestEitherOr(t *testing.T) {
	either := func(s string, at int, beside bool) {
		node, rest, to, e := tree.Read(s, at, beside)
		switch {
		case to < at || to > len(s):
		case e == api.OK && node.Kind != 0 && (to == len(s) || (to == 0 || s[to-1] == '\n') && marked.MatchString(s[to:])):
			return
		case same(node, api.Node{}) && len(rest) == 0 && (e == api.ErrForm && to <= len(s) || e == api.ErrTab && s[to] == '\t' || e == api.ErrDeep):
			return
		}
		t.Fatalf("Read(%q, %d, %v) = %s, %s, %d, %d", s, at, beside, show(node), list(rest), to, e)
	}
	for _, s := range samples() {
		for at := range len(s) + 1 {
			either(s, at, false)
			either(s, at, true)
		}
	}
	grow("", []string{"- ", "? ", ": ", "a", "'", "[", "\t", "#", "\n", "---"}, 4, func(s string) (int, bool) {
		for at := range len(s) + 1 {
			either(s, at, at%2 == 0)
		}
		return len(s), true
	})
}

// told returns what chapter 19 lists of a node: its texts and its comments in their order.
func told(node api.Node) (all []string) {
	notes := func(l []api.Comment) {
		for _, c := range l {
			all = append(all, "#"+c.Text)
		}
	}
	notes(node.Lead)
	switch {
	case node.Kind == api.KAlias:
		all = append(all, "*"+node.Text)
	case node.Text != "":
		all = append(all, "="+node.Text)
	}
	for _, kid := range node.Kids {
		all = append(all, told(kid)...)
	}
	notes(node.Foot)
	if node.HasTrail {
		all = append(all, "#"+node.Trail)
	}
	return all
}

var numbered = regexp.MustCompile(`[#a][0-9]+`)

// 17.10 (W3): no comment is left out, told twice or told at another place among the texts, wherever comments and indicators stand.
func TestKeepsComments(t *testing.T) {
	t.Parallel()
	use := func(s string) (int, bool) {
		// each text and each comment has a number, so that no two are the same
		var out strings.Builder
		places := make([]int, 0, 64)
		for i := range len(s) {
			out.WriteByte(s[i])
			places = append(places, i)
			if s[i] == '#' || s[i] == 'a' {
				for range len(strconv.Itoa(i)) {
					places = append(places, i)
				}
				out.WriteString(strconv.Itoa(i))
			}
		}
		places = append(places, len(s))
		node, rest, to, e := tree.Read(out.String(), 0, false)
		all := told(node)
		for _, c := range rest {
			all = append(all, "#"+c.Text)
		}
		got, want := numbered.FindAllString(strings.Join(all, " "), -1), numbered.FindAllString(out.String(), -1)
		if e == api.OK && !slices.Equal(got, want) {
			t.Fatalf("%q tells %q, want %q", out.String(), got, want)
		}
		return places[to], e == api.OK
	}
	for _, s := range []string{"", "- ", "? ", "a: ", "&b "} {
		grow(s, []string{"- ", "? ", ": ", "a", "&b ", "\n", " #\n", "  "}, 6, use)
	}
}

// count returns how many nodes and comments there are in a node, itself among them.
func count(node api.Node) (nodes, notes int) {
	nodes, notes = 1, len(node.Lead)+len(node.Foot)
	if node.HasTrail {
		notes++
	}
	for _, kid := range node.Kids {
		in, of := count(kid)
		nodes, notes = nodes+in, notes+of
	}
	return nodes, notes
}

// 17.2 to 17.9, 17.11: many entries, comments, rows and blank rows, and long scalars, keys and rows.
func TestLong(t *testing.T) {
	const n = 1 << 14
	many := func(s string) string { return strings.Repeat(s, n) }
	for _, c := range []struct {
		s            string
		nodes, notes int
	}{
		{many("- a\n"), 1 + n, 0}, {many("-\n"), 1 + n, 0}, {many("a: b\n"), 1 + 2*n, 0}, {many("a:\n"), 1 + 2*n, 0}, {many(":\n"), 1 + 2*n, 0}, {many("? a\n"), 1 + 2*n, 0}, {many("?\n"), 1 + 2*n, 0}, {many("? a\n: b\n"), 1 + 2*n, 0}, {many("a:\n- b\n"), 1 + 3*n, 0}, {many("- - a\n"), 1 + 2*n, 0}, {many("- a: b\n"), 1 + 3*n, 0}, {many("&a b: &c d\n"), 1 + 2*n, 0}, {many("- &a\n"), 1 + n, 0}, {many("[a]: [b]\n"), 1 + 4*n, 0}, {many("- |\n a\n"), 1 + n, 0}, {"a:\n" + many("- b\n") + "c:", 5 + n, 0}, {"? - a\n" + many("  - b\n") + ": c", 4 + n, 0},
		{many("a\n"), 1, 0}, {many("a "), 1, 0}, {many("a") + ": " + many("b"), 3, 0}, {"'" + many("a") + "': " + many("b "), 3, 0}, {"[" + many("a,") + "]: b", 3 + n, 0}, {"&" + many("a") + " !" + many("t") + " b", 1, 0}, {"*" + many("a") + " : b", 3, 0}, {"-" + many(" ") + "a", 2, 0}, {"-" + many("\n") + " a", 2, 0}, {many("\n") + "a" + many("\n"), 1, 0}, {"a:" + many("\n") + "- b", 4, 0}, {many(" ") + "a: b", 3, 0}, {many("- ")[:80] + many("a "), 41, 0}, {"|\n" + many(" a\n"), 1, 0},
		{many("#x\n") + "a", 1, n}, {"a" + many(" #x\n"), 1, 1}, {many("#x\n- a #y\n"), 1 + n, 2 * n}, {many("- #x\n"), 1 + n, n}, {many("? a #x\n: b #y\n#z\n"), 1 + 2*n, 3*n - 1}, {many("a: #x\n  b #y\n"), 1 + 2*n, 2 * n}, {many("? #x\n: #y\n"), 1 + 2*n, 2 * n}, {"- &a" + many("\n#x\n\n") + " b", 2, n}, {"- a #" + many("x"), 2, 1}, {"- a\n" + many("#x\n") + "- b", 3, n},
	} {
		node, rest, to, e := tree.Read(c.s, 0, false)
		wantRest := 0
		switch {
		case strings.HasPrefix(c.s, "a #x\n"):
			wantRest = n - 1
		case strings.HasSuffix(c.s, "#z\n"):
			wantRest = 1
		}
		if nodes, notes := count(node); nodes != c.nodes || notes != c.notes || len(rest) != wantRest || to != len(c.s) || e != api.OK {
			t.Errorf("Read(%.20q..) has %d nodes, %d comments, %d, %d, %d, want %d, %d, %d, %d", c.s, nodes, notes, len(rest), to, e, c.nodes, c.notes, wantRest, len(c.s))
		}
	}
	if node, _, _, _ := tree.Read(many("\n")+"- a"+many("\n")+"- b", 0, false); node.Kids[0].Blank != n || node.Kids[1].Blank != n-1 {
		t.Errorf("%d and %d blank rows, want %d and %d", node.Kids[0].Blank, node.Kids[1].Blank, n, n-1)
	}
	for _, s := range []string{many("- "), many("? "), many("-\n"), many("- ? "), many("[")} {
		node, _, to, e := tree.Read(s, 0, false)
		if strings.Contains(s, "\n") {
			continue // these are items of one collection
		}
		if !same(node, api.Node{}) || to != 80 && to != 40 || e != api.ErrDeep {
			t.Errorf("Read(%.20q..) = %s, %d, %d", s, show(node), to, e)
		}
	}
	for _, s := range []string{many("a: "), many("a:"), many("'"), many("&a "), many("*"), many("!"), many("a :"), many("[] "), many("{}:"), many("\"\\"), many("| ")} {
		checkKey(t, s, 0)
		checkAt(t, s, 0, false)
	}
}

// slice is the memory of one: where it begins and ends, with its spare capacity.
type slice struct{ from, to uintptr }

func sliceOf[T any](l []T) slice {
	from := uintptr(unsafe.Pointer(unsafe.SliceData(l)))
	var one T
	return slice{from, from + uintptr(cap(l))*unsafe.Sizeof(one)}
}

// memory returns the slices and the texts in a node.
func memory(node api.Node) (lists []slice, texts []string) {
	lists = []slice{sliceOf(node.Kids), sliceOf(node.Lead), sliceOf(node.Foot)}
	texts = []string{node.Anchor, node.Tag, node.Text, node.Trail}
	for _, c := range slices.Concat(node.Lead, node.Foot) {
		texts = append(texts, c.Text)
	}
	for _, kid := range node.Kids {
		in, of := memory(kid)
		lists, texts = append(lists, in...), append(texts, of...)
	}
	return lists, texts
}

// 17.3, 17.7, 17.9: what is answered has memory of its own: none of it is of the text, and no two slices have some in common, in one answer or in two.
func TestOwnMemory(t *testing.T) {
	for _, text := range samples() {
		s := strings.Clone(text)
		first, rest, _, _ := tree.Read(s, 0, false)
		second, more, _, _ := tree.Read(s, 0, false)
		lists, texts := memory(first)
		again, _ := memory(second)
		for _, c := range rest {
			texts = append(texts, c.Text)
		}
		lists = append(append(lists, again...), sliceOf(rest), sliceOf(more))
		lists = slices.DeleteFunc(lists, func(l slice) bool { return l.from == l.to })
		slices.SortFunc(lists, func(a, b slice) int { return int(a.from) - int(b.from) })
		for i := range lists {
			if i > 0 && lists[i].from < lists[i-1].to {
				t.Errorf("of %q: two slices share memory", s)
			}
		}
		from := uintptr(unsafe.Pointer(unsafe.StringData(s)))
		for _, x := range texts {
			if at := uintptr(unsafe.Pointer(unsafe.StringData(x))); x != "" && from <= at && at < from+uintptr(len(s)) {
				t.Errorf("of %q: the memory of %q is that of the text", s, x)
			}
		}
	}
}
