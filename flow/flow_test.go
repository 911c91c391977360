package flow_test

import (
	"math"
	"regexp"
	"slices"
	"strconv"
	"strings"
	"testing"
	"unsafe"

	"bosket/api"
	"bosket/flow"
)

// same reports whether two nodes are, with all that is in them.
func same(a, b api.Node) bool {
	return a.Kind == b.Kind && a.Style == b.Style && a.At == b.At && a.Blank == b.Blank && a.Anchor == b.Anchor && a.Tag == b.Tag && a.Text == b.Text && a.HasTrail == b.HasTrail && a.Trail == b.Trail &&
		slices.Equal(a.Lead, b.Lead) && slices.Equal(a.Foot, b.Foot) && slices.EqualFunc(a.Kids, b.Kids, same)
}

// show tells a node, but not its place: its comments and the blank rows above it, its properties, its contents, and the comment behind it.
func show(node api.Node) string {
	var all []string
	for _, c := range node.Lead {
		all = append(all, "#"+c.Text+"/"+strconv.Itoa(c.Blank))
	}
	if node.Blank != 0 {
		all = append(all, "^"+strconv.Itoa(node.Blank))
	}
	if node.Anchor != "" {
		all = append(all, "&"+node.Anchor)
	}
	if node.Tag != "" {
		all = append(all, node.Tag)
	}
	all = append(all, contents(node))
	if node.HasTrail {
		all = append(all, "!#"+node.Trail)
	}
	return strings.Join(all, " ")
}

func contents(node api.Node) string {
	switch node.Kind {
	case api.KAlias:
		return "*" + node.Text
	case api.KScalar:
		return []string{"", "p", "s", "d"}[node.Style] + strconv.Quote(node.Text)
	}
	var all []string
	for _, kid := range node.Kids {
		all = append(all, show(kid))
	}
	for _, c := range node.Foot {
		all = append(all, ";"+c.Text+"/"+strconv.Itoa(c.Blank))
	}
	if node.Kind == api.KSeq {
		return "[" + strings.Join(all, " ") + "]"
	}
	return "{" + strings.Join(all, " ") + "}"
}

// places returns those of a node and of all in it, in their order.
func places(node api.Node) []int {
	all := []int{node.At}
	for _, kid := range node.Kids {
		all = append(all, places(kid)...)
	}
	return all
}

// checkAt holds Read against the chapter's words in one place of s, and tells whether a collection is there, and where it ends or is wrong.
func checkAt(t *testing.T, s string, at, n, deep int) (int, bool) {
	t.Helper()
	got, to, e := flow.Read(s, at, n, deep)
	node, wantTo, wantE := want(s, at, n, deep)
	if !same(got, node) || to != wantTo || e != wantE {
		t.Fatalf("Read(%q, %d, %d, %d) = %s, %v, %d, %d, want %s, %v, %d, %d", s, at, n, deep, show(got), places(got), to, e, show(node), places(node), wantTo, wantE)
	}
	return to, e == api.OK
}

// check does that in every place of s, and right outside of it.
func check(t *testing.T, s string) {
	t.Helper()
	for at := -1; at <= len(s)+1; at++ {
		checkAt(t, s, at, -1, 0)
	}
}

// grow calls use with all texts of at most most of these parts behind s, but with none that goes on behind a collection, or behind a part ahead of the last one that is wrong already.
func grow(s string, parts []string, most int, use func(s string) (to int, ok bool)) {
	var longer func(s string, last, n int)
	longer = func(s string, last, n int) {
		to, ok := use(s)
		if n == 0 || to < last || ok {
			return
		}
		for _, p := range parts {
			longer(s+p, len(s), n-1)
		}
	}
	longer(s, 0, most)
}

// collections are texts that are one, in no block collection.
var collections = []struct{ s, want string }{
	// the chapter's examples
	{"[a, b: c]", `[p"a" {p"b" p"c"}]`}, {`{"a":b, c}`, `{d"a" p"b" p"c" p""}`},
	// brackets
	{"[]", `[]`}, {"{}", `{}`}, {"[ ]", `[]`}, {"{\t}", `{}`}, {"[\n]", `[]`}, {"{\n\n \t\n}", `{}`}, {"[[]]", `[[]]`}, {"[{}]", `[{}]`}, {"{[]}", `{[] p""}`}, {"{{}}", `{{} p""}`}, {"[[[[]]]]", `[[[[]]]]`}, {"[[], {}]", `[[] {}]`}, {"[[],[]]", `[[] []]`}, {"[\n[\n]\n]", `[[]]`},
	// commas
	{"[a]", `[p"a"]`}, {"[a,b,c]", `[p"a" p"b" p"c"]`}, {"[ a , b ]", `[p"a" p"b"]`}, {"[\ta\t,\tb\t]", `[p"a" p"b"]`}, {"[\na\n,\nb\n]", `[p"a" p"b"]`}, {"[a,]", `[p"a"]`}, {"[a ,]", `[p"a"]`}, {"[a, ]", `[p"a"]`}, {"[a\n,\n]", `[p"a"]`}, {"[a,\n\n]", `[p"a"]`}, {"[[],]", `[[]]`}, {"{a,}", `{p"a" p""}`}, {"{a: b,}", `{p"a" p"b"}`}, {"{a: b , }", `{p"a" p"b"}`}, {"{a:,}", `{p"a" p""}`}, {"[a: b,]", `[{p"a" p"b"}]`}, {"[? a,]", `[{p"a" p""}]`}, {"[:,]", `[{p"" p""}]`},
	// plain scalars
	{"[a b]", `[p"a b"]`}, {"[a\n b]", `[p"a b"]`}, {"[a\n\nb]", `[p"a\nb"]`}, {"[a#b]", `[p"a#b"]`}, {"[-a, ?b, :c]", `[p"-a" p"?b" p":c"]`}, {"[a:b]", `[p"a:b"]`}, {"[a:\"b\"]", `[p"a:\"b\""]`}, {"[a\"b']", `[p"a\"b'"]`}, {"[a &b *c !d]", `[p"a &b *c !d"]`}, {"[::a]", `[p"::a"]`}, {"[--- a]", `[p"--- a"]`}, {"[\n---]", `[p"---"]`}, {"[...,\n...]", `[p"..." p"..."]`}, {"[a - b ? c]", `[p"a - b ? c"]`}, {"[é]", `[p"é"]`}, {"[\x00, \xff]", `[p"\x00" p"\xff"]`}, {"[a\rb]", `[p"a\rb"]`}, {"[a :b]", `[p"a :b"]`}, {"{a :b}", `{p"a :b" p""}`}, {"[\u00a0]", `[p"` + "\\u00a0" + `"]`}, {"[a|b>c]", `[p"a|b>c"]`}, {"{? a ? b}", `{p"a ? b" p""}`}, {"{\"a\":b \"c\":d}", `{d"a" p"b \"c\":d"}`},
	// quoted ones
	{"['a''b', \"c\\n\"]", `[s"a'b" d"c\n"]`}, {"['']", `[s""]`}, {"[\"\"]", `[d""]`}, {"[\"a\n b\"]", `[d"a b"]`}, {"['a\n\n b']", `[s"a\nb"]`}, {"[\"]\"]", `[d"]"]`}, {"['a, b: c']", `[s"a, b: c"]`}, {"[\" #a\"]", `[d" #a"]`}, {"[\"a\"\n,'b']", `[d"a" s"b"]`}, {"{'a\n b' : c}", `{s"a b" p"c"}`},
	// aliases
	{"[*a]", `[*a]`}, {"[*a, *b ]", `[*a *b]`}, {"[*a:b]", `[*a:b]`}, {"[*a:]", `[*a:]`}, {"[*a#b]", `[*a#b]`}, {"{*a}", `{*a p""}`}, {"{*a : *b}", `{*a *b}`}, {"[**]", `[**]`}, {"{a: *b,c}", `{p"a" *b p"c" p""}`},
	// properties
	{"[&a x]", `[&a p"x"]`}, {"[!t x]", `[!t p"x"]`}, {"[&a !t x]", `[&a !t p"x"]`}, {"[!t &a x]", `[&a !t p"x"]`}, {"[&a \"x\"]", `[&a d"x"]`}, {"[!t 'x']", `[!t s"x"]`}, {"[&a [x]]", `[&a [p"x"]]`}, {"[&a[x]]", `[&a [p"x"]]`}, {"[!t{}]", `[!t {}]`}, {"[&a {b: c}]", `[&a {p"b" p"c"}]`}, {"[! a]", `[! p"a"]`}, {"[!!str a, !<x,y> b]", `[!!str p"a" !<x,y> p"b"]`}, {"[&a:b c]", `[&a:b p"c"]`}, {"[&a*b]", `[&a*b p""]`}, {"[&a -b]", `[&a p"-b"]`}, {"[&a ?b]", `[&a p"?b"]`}, {"[&a :b]", `[&a p":b"]`}, {"[&a\n x]", `[&a p"x"]`}, {"[!t\n\n\n'x']", `[!t s"x"]`}, {"[&a !t\n{}]", `[&a !t {}]`}, {"{&a b: !t c}", `{&a p"b" !t p"c"}`}, {"{!t [a]:b}", `{!t [p"a"] p"b"}`},
	// without a content
	{"[&a]", `[&a p""]`}, {"[&a, b]", `[&a p"" p"b"]`}, {"[!t ]", `[!t p""]`}, {"[!t,]", `[!t p""]`}, {"[&a\n]", `[&a p""]`}, {"[&a !t]", `[&a !t p""]`}, {"{&a}", `{&a p"" p""}`}, {"{&a : b}", `{&a p"" p"b"}`}, {"{&a\n : b}", `{&a p"" p"b"}`}, {"{a: &b, c: !t}", `{p"a" &b p"" p"c" !t p""}`}, {"{? &a : &b}", `{&a p"" &b p""}`}, {"{a: &b\n\n, c}", `{p"a" &b p"" p"c" p""}`},
	// signs
	{"[a: b]", `[{p"a" p"b"}]`}, {"[a:\tb]", `[{p"a" p"b"}]`}, {"[a:\nb]", `[{p"a" p"b"}]`}, {"[a:]", `[{p"a" p""}]`}, {"[a:,b]", `[{p"a" p""} p"b"]`}, {"{a:[b]}", `{p"a" [p"b"]}`}, {"{a:{}}", `{p"a" {}}`}, {"{a:}", `{p"a" p""}`}, {"[::]", `[{p":" p""}]`}, {"{a:\"b\"}", `{p"a:\"b\"" p""}`}, {"[a::b: c]", `[{p"a::b" p"c"}]`},
	{"[\"a\":b]", `[{d"a" p"b"}]`}, {"['a':b]", `[{s"a" p"b"}]`}, {"[\"a\" :b]", `[{d"a" p"b"}]`}, {"[\"a\"\t:b]", `[{d"a" p"b"}]`}, {"[\"\":\"\"]", `[{d"" d""}]`}, {"[[a]:b]", `[{[p"a"] p"b"}]`}, {"[[] :b]", `[{[] p"b"}]`}, {"[{}:b]", `[{{} p"b"}]`}, {"[&a \"b\":c]", `[{&a d"b" p"c"}]`}, {"[!t []:c]", `[{!t [] p"c"}]`}, {"[\"a\":'b', c]", `[{d"a" s"b"} p"c"]`}, {"{\"a\":b}", `{d"a" p"b"}`}, {"{\"a\"\n:b}", `{d"a" p"b"}`}, {"{'a'\n\n :b}", `{s"a" p"b"}`}, {"{[a]:b}", `{[p"a"] p"b"}`}, {"{{a: b}:c}", `{{p"a" p"b"} p"c"}`}, {"{\"a\"::b}", `{d"a" p":b"}`}, {"{\"a\": :b}", `{d"a" p":b"}`}, {"{\"a\":}", `{d"a" p""}`}, {"{\"a\":*b}", `{d"a" *b}`}, {"{\"a\":&b}", `{d"a" &b p""}`}, {"{? \"a\":b}", `{d"a" p"b"}`}, {"[? [a]:b]", `[{[p"a"] p"b"}]`}, {"{&a\n\"b\"\n:c}", `{&a d"b" p"c"}`},
	// pairs
	{"[a : b]", `[{p"a" p"b"}]`}, {"[a\t:\tb]", `[{p"a" p"b"}]`}, {"[a b: c d]", `[{p"a b" p"c d"}]`}, {"[a: b, c: d]", `[{p"a" p"b"} {p"c" p"d"}]`}, {"[a:\n\n b]", `[{p"a" p"b"}]`}, {"[a: b\n c]", `[{p"a" p"b c"}]`}, {"[\n a: b]", `[{p"a" p"b"}]`}, {"[a,\n b: c]", `[p"a" {p"b" p"c"}]`}, {"[a\n, b: c]", `[p"a" {p"b" p"c"}]`}, {"[*a : b]", `[{*a p"b"}]`}, {"[&a b: &c d]", `[{&a p"b" &c p"d"}]`}, {"[&a : b]", `[{&a p"" p"b"}]`}, {"[!t : b]", `[{!t p"" p"b"}]`}, {"[&a:]", `[&a: p""]`}, {"[[a, b]: c]", `[{[p"a" p"b"] p"c"}]`}, {"[[a: b]: c]", `[{[{p"a" p"b"}] p"c"}]`}, {"[{a: b}: c]", `[{{p"a" p"b"} p"c"}]`}, {"[a: [b: [c: d]]]", `[{p"a" [{p"b" [{p"c" p"d"}]}]}]`}, {"[a: {b: c}]", `[{p"a" {p"b" p"c"}}]`}, {"[a: &b]", `[{p"a" &b p""}]`}, {"[a: !t\n [b]]", `[{p"a" !t [p"b"]}]`}, {"[a: \"b\"]", `[{p"a" d"b"}]`},
	{"[: b]", `[{p"" p"b"}]`}, {"[:\nb]", `[{p"" p"b"}]`}, {"[:]", `[{p"" p""}]`}, {"[: ]", `[{p"" p""}]`}, {"[:,:]", `[{p"" p""} {p"" p""}]`}, {"[:[a]]", `[{p"" [p"a"]}]`}, {"[a, : b]", `[p"a" {p"" p"b"}]`}, {"[\n: b]", `[{p"" p"b"}]`}, {"[: &a b]", `[{p"" &a p"b"}]`},
	{"[? a : b]", `[{p"a" p"b"}]`}, {"[? a: b]", `[{p"a" p"b"}]`}, {"[? a]", `[{p"a" p""}]`}, {"[? a:]", `[{p"a" p""}]`}, {"[? ]", `[{p"" p""}]`}, {"[?\t]", `[{p"" p""}]`}, {"[?\n]", `[{p"" p""}]`}, {"[? , a]", `[{p"" p""} p"a"]`}, {"[? :]", `[{p"" p""}]`}, {"[? : b]", `[{p"" p"b"}]`}, {"[?\n: b]", `[{p"" p"b"}]`}, {"[?\n\na\n\n:\n\nb]", `[{p"a" p"b"}]`}, {"[? a\n b : c]", `[{p"a b" p"c"}]`}, {"[? \"a\n b\"\n :c]", `[{d"a b" p"c"}]`}, {"[? [a,\n b]\n: c]", `[{[p"a" p"b"] p"c"}]`}, {"[? &a\n b : c]", `[{&a p"b" p"c"}]`}, {"[? &a\n : c]", `[{&a p"" p"c"}]`}, {"[? ?a, ? :b, ? -c]", `[{p"?a" p""} {p":b" p""} {p"-c" p""}]`}, {"[? a, b]", `[{p"a" p""} p"b"]`}, {"[? [? a]]", `[{[{p"a" p""}] p""}]`}, {"[? *a : b]", `[{*a p"b"}]`}, {"[? &a]", `[{&a p"" p""}]`},
	// mappings
	{"{a}", `{p"a" p""}`}, {"{a, b}", `{p"a" p"" p"b" p""}`}, {"{a: b}", `{p"a" p"b"}`}, {"{a : b}", `{p"a" p"b"}`}, {"{a: b, c: d}", `{p"a" p"b" p"c" p"d"}`}, {"{a: , b}", `{p"a" p"" p"b" p""}`}, {"{a\n b: c}", `{p"a b" p"c"}`}, {"{a\n: b}", `{p"a" p"b"}`}, {"{a\n\n:\n\nb}", `{p"a" p"b"}`}, {"{\"a\n b\": c}", `{d"a b" p"c"}`}, {"{[a,\n b]: c}", `{[p"a" p"b"] p"c"}`}, {"{*a\n : b}", `{*a p"b"}`}, {"{&a\n b\n : c}", `{&a p"b" p"c"}`}, {"{: a}", `{p"" p"a"}`}, {"{:}", `{p"" p""}`}, {"{: , : }", `{p"" p"" p"" p""}`}, {"{a, : b}", `{p"a" p"" p"" p"b"}`}, {"{? a}", `{p"a" p""}`}, {"{? a : b}", `{p"a" p"b"}`}, {"{? a\n : b}", `{p"a" p"b"}`}, {"{? }", `{p"" p""}`}, {"{?\n}", `{p"" p""}`}, {"{? , a}", `{p"" p"" p"a" p""}`}, {"{? : b}", `{p"" p"b"}`}, {"{? a, ? : b}", `{p"a" p"" p"" p"b"}`}, {"{?a: b}", `{p"?a" p"b"}`}, {"{a: {b: {c: d}}}", `{p"a" {p"b" {p"c" p"d"}}}`}, {"{a: [b, {c: d}], e: f}", `{p"a" [p"b" {p"c" p"d"}] p"e" p"f"}`}, {"{a: b\n c}", `{p"a" p"b c"}`}, {"{[a]: [b]}", `{[p"a"] [p"b"]}`}, {"{a: b, a: b}", `{p"a" p"b" p"a" p"b"}`},
}

// commented are texts with comments, or with blank rows.
var commented = []struct{ s, want string }{
	// ahead of an entry, and behind its ?
	{"[ #x\n a]", `[#x/0 p"a"]`}, {"[\n#x\n\n #y\na]", `[#x/0 #y/1 p"a"]`}, {"[ #x\n \"a\", #y\n]", `[#x/0 d"a" !#y]`}, {"[ #x\n *a]", `[#x/0 *a]`}, {"[ #x\n &a]", `[#x/0 &a p""]`}, {"[ #x\n [a]]", `[#x/0 [p"a"]]`}, {"[[ #x\n a]]", `[[#x/0 p"a"]]`}, {"[ #x\n [ #y\n a]]", `[#x/0 [#y/0 p"a"]]`}, {"[ #x\n a: b]", `[#x/0 {p"a" p"b"}]`}, {"[ #x\n : b]", `[#x/0 {p"" p"b"}]`}, {"[ #x\n ? a]", `[#x/0 {p"a" p""}]`}, {"[? #x\n a]", `[#x/0 {p"a" p""}]`}, {"[ #x\n ? #y\n #z\n a : b]", `[#x/0 #y/0 #z/0 {p"a" p"b"}]`}, {"[? #x\n]", `[#x/0 {p"" p""}]`}, {"[ #x\n ? #y\n]", `[#x/0 #y/0 {p"" p""}]`}, {"[? #x\n : b]", `[#x/0 {p"" p"b"}]`}, {"[? #x\n, b]", `[#x/0 {p"" p""} p"b"]`}, {"[?\n #x\n a]", `[#x/0 {p"a" p""}]`},
	{"{ #x\n a}", `{#x/0 p"a" p""}`}, {"{ #x\n a: b}", `{#x/0 p"a" p"b"}`}, {"{ #x\n : b}", `{#x/0 p"" p"b"}`}, {"{ #x\n ? a}", `{#x/0 p"a" p""}`}, {"{? #x\n a : b}", `{#x/0 p"a" p"b"}`}, {"{ #x\n ? #y\n : b}", `{#x/0 #y/0 p"" p"b"}`}, {"{? #x\n}", `{#x/0 p"" p""}`}, {"{? #x\n, b}", `{#x/0 p"" p"" p"b" p""}`}, {"{? #x\n [a]: b}", `{#x/0 [p"a"] p"b"}`}, {"{a, #x\n #y\n ? #z\n b}", `{p"a" p"" !#x #y/0 #z/0 p"b" p""}`},
	// between properties and content
	{"[&a #x\n b]", `[#x/0 &a p"b"]`}, {"[&a #x\n\n #y\n [b]]", `[#x/0 #y/1 &a [p"b"]]`}, {"[!t\n #x\n 'b']", `[#x/0 !t s"b"]`}, {"[ #x\n &a #y\n b]", `[#x/0 #y/0 &a p"b"]`}, {"{&a #x\n b: c}", `{#x/0 &a p"b" p"c"}`}, {"{ #x\n &a #y\n \"b\":c}", `{#x/0 #y/0 &a d"b" p"c"}`}, {"{a: &b #x\n c}", `{p"a" #x/0 &b p"c"}`}, {"[? &a #x\n b]", `[{#x/0 &a p"b" p""}]`}, {"[ #x\n ? #y\n &a #z\n b : c]", `[#x/0 #y/0 {#z/0 &a p"b" p"c"}]`}, {"{ #x\n ? #y\n &a #z\n b}", `{#x/0 #y/0 #z/0 &a p"b" p""}`}, {"[: &a #x\n b]", `[{p"" #x/0 &a p"b"}]`}, {"[&a #x\n [ #y\n]]", `[#x/0 &a [;y/0]]`},
	// between a key and its sign, and between that and the value
	{"{a #x\n : b}", `{p"a" #x/0 p"b"}`}, {"{a\n #x\n #y\n : b}", `{p"a" #x/0 #y/0 p"b"}`}, {"{a: #x\n b}", `{p"a" #x/0 p"b"}`}, {"{a:\n\n #x\n b}", `{p"a" #x/1 p"b"}`}, {"{a #x\n : #y\n b}", `{p"a" #x/0 #y/0 p"b"}`}, {"{a #x\n : #y\n &c #z\n b}", `{p"a" #x/0 #y/0 #z/0 &c p"b"}`}, {"{\"a\" #x\n :b}", `{d"a" #x/0 p"b"}`}, {"{[a] #x\n :[b]}", `{[p"a"] #x/0 [p"b"]}`}, {"{&a #x\n : b}", `{&a p"" #x/0 p"b"}`}, {"{&a #x\n : #y\n}", `{&a p"" #x/0 p"" !#y}`}, {"{: #x\n b}", `{p"" #x/0 p"b"}`}, {"{? a #x\n : b}", `{p"a" #x/0 p"b"}`}, {"{? : #x\n b}", `{p"" #x/0 p"b"}`}, {"[a: #x\n b]", `[{p"a" #x/0 p"b"}]`}, {"[: #x\n b]", `[{p"" #x/0 p"b"}]`}, {"[? a #x\n : #y\n b]", `[{p"a" #x/0 #y/0 p"b"}]`}, {"[? a #x\n : b]", `[{p"a" #x/0 p"b"}]`}, {"[a: #x\n *b]", `[{p"a" #x/0 *b}]`}, {"[a: #x\n [ #y\n b]]", `[{p"a" #x/0 [#y/0 p"b"]}]`},
	// if the value is empty
	{"{a #x\n :}", `{p"a" #x/0 p""}`}, {"{a #x\n : #y\n}", `{p"a" #x/0 p"" !#y}`}, {"{a #x\n : #y\n #z\n}", `{p"a" #x/0 p"" !#y ;z/0}`}, {"{a #x\n : #y\n , b}", `{p"a" #x/0 p"" !#y p"b" p""}`}, {"{a #x\n :\n #y\n , b}", `{p"a" #x/0 p"" #y/0 p"b" p""}`}, {"{a: #x\n}", `{p"a" p"" !#x}`}, {"{a:, #x\n b}", `{p"a" p"" !#x p"b" p""}`}, {"{a:\n #x\n}", `{p"a" p"" ;x/0}`}, {"{a:\n #x\n, b}", `{p"a" p"" #x/0 p"b" p""}`}, {"{: #x\n}", `{p"" p"" !#x}`}, {"{? #x\n : #y\n}", `{#x/0 p"" p"" !#y}`}, {"{? a #x\n : #y\n}", `{p"a" #x/0 p"" !#y}`}, {"[a: #x\n]", `[{p"a" p"" !#x}]`}, {"[: #x\n, a]", `[{p"" p"" !#x} p"a"]`}, {"[? a #x\n : #y\n]", `[{p"a" #x/0 p"" !#y}]`},
	// but for its properties, to which the comments ahead of them belong
	{"{a: !t #x\n}", `{p"a" !t p"" !#x}`}, {"{a: !t\n #x\n, b}", `{p"a" !t p"" #x/0 p"b" p""}`}, {"{a: #x\n !t #y\n, b}", `{p"a" #x/0 !t p"" !#y p"b" p""}`}, {"{a #x\n : #y\n &b\n #z\n}", `{p"a" #x/0 #y/0 &b p"" ;z/0}`}, {"[a: #x\n !t]", `[{p"a" #x/0 !t p""}]`},
	// behind an entry, in the row where it ends
	{"[a #x\n]", `[p"a" !#x]`}, {"[a\t#x\n]", `[p"a" !#x]`}, {"[a, #x\n]", `[p"a" !#x]`}, {"[a , #x\n b]", `[p"a" !#x p"b"]`}, {"[a, #x\n b #y\n]", `[p"a" !#x p"b" !#y]`}, {"[a, b #x\n]", `[p"a" p"b" !#x]`}, {"[a #x\n, b]", `[p"a" !#x p"b"]`}, {"[a\n b #x\n]", `[p"a b" !#x]`}, {"[\"a\n b\", #x\n]", `[d"a b" !#x]`}, {"[*a #x\n]", `[*a !#x]`}, {"[&a #x\n]", `[&a p"" !#x]`}, {"[&a, #x\n b]", `[&a p"" !#x p"b"]`}, {"[&a !t #x\n, b]", `[&a !t p"" !#x p"b"]`}, {"[[a] #x\n]", `[[p"a"] !#x]`}, {"[[a\n], #x\n]", `[[p"a"] !#x]`}, {"[[a #x\n]]", `[[p"a" !#x]]`}, {"[[a #x\n] #y\n]", `[[p"a" !#x] !#y]`}, {"[[a\n #x\n] #y\n]", `[[p"a" ;x/0] !#y]`},
	{"[a: b #x\n]", `[{p"a" p"b" !#x}]`}, {"[a: b, #x\n c]", `[{p"a" p"b" !#x} p"c"]`}, {"[a: [b] #x\n, c]", `[{p"a" [p"b"] !#x} p"c"]`}, {"[a:\n b #x\n]", `[{p"a" p"b" !#x}]`}, {"[? a #x\n]", `[{p"a" p"" !#x}]`}, {"[? a, #x\n b]", `[{p"a" p"" !#x} p"b"]`}, {"[? , #x\n b]", `[{p"" p"" !#x} p"b"]`}, {"[:, #x\n]", `[{p"" p"" !#x}]`}, {"{a #x\n}", `{p"a" p"" !#x}`}, {"{a, #x\n b}", `{p"a" p"" !#x p"b" p""}`}, {"{a: b #x\n}", `{p"a" p"b" !#x}`}, {"{a: b #x\n, c: d, #y\n}", `{p"a" p"b" !#x p"c" p"d" !#y}`}, {"{a: {b: c} #x\n}", `{p"a" {p"b" p"c"} !#x}`}, {"{a: {b: c #x\n} #y\n}", `{p"a" {p"b" p"c" !#x} !#y}`}, {"{? a #x\n, b}", `{p"a" p"" !#x p"b" p""}`}, {"{? , #x\n}", `{p"" p"" !#x}`}, {"{&a #x\n}", `{&a p"" p"" !#x}`}, {"{? &a #x\n, b}", `{&a p"" p"" !#x p"b" p""}`},
	// and in later rows
	{"[a\n#x\n]", `[p"a" ;x/0]`}, {"[a,\n #x\n]", `[p"a" ;x/0]`}, {"[a\n #x\n, b]", `[p"a" #x/0 p"b"]`}, {"[a\n, #x\n b]", `[p"a" #x/0 p"b"]`}, {"[a\n, #x\n]", `[p"a" ;x/0]`}, {"[a\n #x\n, #y\n b]", `[p"a" #x/0 #y/0 p"b"]`}, {"[a #x\n, #y\n b]", `[p"a" !#x #y/0 p"b"]`}, {"[a #x\n #y\n, #z\n b]", `[p"a" !#x #y/0 #z/0 p"b"]`}, {"[a #x\n #y\n, #z\n]", `[p"a" !#x ;y/0 ;z/0]`}, {"[a, #x\n\n #y\n b: c]", `[p"a" !#x #y/1 {p"b" p"c"}]`}, {"[a, #x\n #y\n [b]]", `[p"a" !#x #y/0 [p"b"]]`}, {"[a,\n #x\n ? #y\n b]", `[p"a" #x/0 #y/0 {p"b" p""}]`}, {"[a:\n #x\n]", `[{p"a" p""} ;x/0]`}, {"[? a\n #x\n, b]", `[{p"a" p""} #x/0 p"b"]`}, {"{a\n #x\n}", `{p"a" p"" ;x/0}`}, {"{a: b\n #x\n, c: d\n\n\n #y\n}", `{p"a" p"b" #x/0 p"c" p"d" ;y/2}`}, {"{a: b, #x\n #y\n : c}", `{p"a" p"b" !#x #y/0 p"" p"c"}`},
	// if the entry has no more than a ?, behind which a comma stands in a later row
	{"[?\n, #x\n b]", `[{p"" p""} #x/0 p"b"]`}, {"[? #x\n, #y\n b]", `[#x/0 {p"" p""} #y/0 p"b"]`}, {"{?\n\n, #x\n}", `{p"" p"" ;x/0}`}, {"{? #x\n , #y\n}", `{#x/0 p"" p"" ;y/0}`},
	// the foot of a collection with entries, or with none
	{"[ #x\n]", `[;x/0]`}, {"{ #x\n}", `{;x/0}`}, {"[\n\n#x\n #y\n]", `[;x/1 ;y/0]`}, {"{ #x\n\n\n\n #y\n}", `{;x/0 ;y/3}`}, {"[[ #x\n], { #y\n}]", `[[;x/0] {;y/0}]`}, {"[a, #x\n #y\n]", `[p"a" !#x ;y/0]`}, {"[a,\n\n #x\n]", `[p"a" ;x/1]`}, {"{a: [ #x\n]}", `{p"a" [;x/0]}`}, {"{[ #x\n]: a}", `{[;x/0] p"a"}`},
	// the texts of comments
	{"[a #  x y  \n]", `[p"a" !#  x y]`}, {"[a #\n]", `[p"a" !#]`}, {"[a ##x\n]", `[p"a" !##x]`}, {"[ # ]\n a]", `[# ]/0 p"a"]`}, {"[ #x, b]\n a]", `[#x, b]/0 p"a"]`},
	// blank rows above items
	{"[\n\na]", `[^1 p"a"]`}, {"[\n \n\t\n  a]", `[^2 p"a"]`}, {"[a,\n\n b]", `[p"a" ^1 p"b"]`}, {"[a, b,\n\n\n \"c\"]", `[p"a" p"b" ^2 d"c"]`}, {"[a,\n\n [b]]", `[p"a" ^1 [p"b"]]`}, {"[[\n\n a]]", `[[^1 p"a"]]`}, {"[\n\n[\n\n\na]]", `[^1 [^2 p"a"]]`}, {"[a,\n\n *b]", `[p"a" ^1 *b]`}, {"[a,\n\n &b]", `[p"a" ^1 &b p""]`}, {"[\n\n &a\n\n\n b]", `[^1 &a p"b"]`}, {"[\n\n a: b]", `[^1 {p"a" p"b"}]`}, {"[a,\n\n ?\n\n\n b]", `[p"a" ^1 {p"b" p""}]`}, {"[a,\n\n : b]", `[p"a" ^1 {p"" p"b"}]`}, {"[\n\n &a b: c]", `[^1 {&a p"b" p"c"}]`}, {"[a,\n\n #x\n b]", `[p"a" #x/1 p"b"]`}, {"[a,\n\n #x\n\n b]", `[p"a" #x/1 ^1 p"b"]`}, {"[a #x\n\n , b]", `[p"a" !#x p"b"]`}, {"[a\n\n, b]", `[p"a" p"b"]`}, {"[a\n\n,\n b]", `[p"a" p"b"]`}, {"[\n\n a, b]", `[^1 p"a" p"b"]`}, {"[a: b,\n\n c: d]", `[{p"a" p"b"} ^1 {p"c" p"d"}]`}, {"[a:\n\n b]", `[{p"a" p"b"}]`}, {"[a:\n\n [\n\n b]]", `[{p"a" [^1 p"b"]}]`}, {"[a\n\n]", `[p"a"]`},
	// and above keys
	{"{\n\n a}", `{^1 p"a" p""}`}, {"{\n\n a: b,\n\n\n c}", `{^1 p"a" p"b" ^2 p"c" p""}`}, {"{a:\n\n b}", `{p"a" p"b"}`}, {"{a\n\n : b}", `{p"a" p"b"}`}, {"{\n\n ? a}", `{^1 p"a" p""}`}, {"{?\n\n a}", `{p"a" p""}`}, {"{a,\n\n ?\n\n\n b\n\n : c}", `{p"a" p"" ^1 p"b" p"c"}`}, {"{\n\n : b}", `{^1 p"" p"b"}`}, {"{a,\n\n ?\n : b}", `{p"a" p"" ^1 p"" p"b"}`}, {"{\n\n &a\n\n b: c}", `{^1 &a p"b" p"c"}`}, {"{\n\n &a : b}", `{^1 &a p"" p"b"}`}, {"{\n\n [\n\n\n a]: b}", `{^1 [^2 p"a"] p"b"}`}, {"{\n\n #x\n\n ? #y\n\n a}", `{#x/1 #y/0 ^1 p"a" p""}`}, {"{a: b,\n\n \"c\":d}", `{p"a" p"b" ^1 d"c" p"d"}`},
}

// refused are texts that are wrong where nothing stands around them, and where.
var refused = []struct {
	s  string
	at int
}{
	// no bracket
	{"", 0}, {"a", 0}, {"]", 0}, {"}", 0}, {",", 0}, {" []", 0}, {"\n[]", 0}, {"(a)", 0}, {"<a>", 0}, {"\"[]\"", 0}, {"#[]", 0}, {"&a []", 0}, {"!t []", 0}, {"- []", 0}, {"\\[]", 0}, {"［]", 0}, {"\u015b]", 0}, {"\u017b}", 0}, {"\xdb]", 0}, {"\x00", 0},
	// the end of s
	{"[", 1}, {"{", 1}, {"[ ", 2}, {"[\n\n", 3}, {"[a", 2}, {"[a ", 3}, {"[a,", 3}, {"[a, ", 4}, {"{a", 2}, {"{a:", 3}, {"{a: ", 4}, {"{a: b", 5}, {"{a: b,", 6}, {"[a:", 3}, {"[a: b", 5}, {"[?", 2}, {"[? ", 3}, {"[? a", 4}, {"{? a :", 6}, {"[:", 2}, {"[&a", 3}, {"[&a ", 4}, {"[!", 2}, {"[&a !t\n", 7}, {"{a: &b", 6}, {"[*a", 3}, {"[\"a\"", 4}, {"{\"a\":", 5}, {"[[", 2}, {"[[]", 3}, {"[[a], ", 6}, {"{[{", 3}, {"[ #c", 4}, {"[a #c\n", 6}, {"[a, #]", 6}, {"{a: #}\n", 7},
	// a comma without an entry
	{"[,]", 1}, {"[ ,]", 2}, {"[,a]", 1}, {"[a,,]", 3}, {"[a,,b]", 3}, {"[a, , b]", 4}, {"[a,\n,]", 4}, {"[a, #c\n ,]", 8}, {"[[],,]", 4}, {"[a: b,,]", 6}, {"{,}", 1}, {"{a,,}", 3}, {"{a: b,,}", 6}, {"{\n, a}", 2}, {"[[,]]", 2}, {"{a: [,]}", 5},
	// the other bracket
	{"[}", 1}, {"{]", 1}, {"[ }", 2}, {"[a}", 2}, {"{a]", 2}, {"[a,}", 3}, {"{a,]", 3}, {"{a:]", 3}, {"{a: ]", 4}, {"{a: b]", 5}, {"[a:}", 3}, {"[a: }", 4}, {"[a: b}", 5}, {"{? ]", 3}, {"[? }", 3}, {"[?\n}", 3}, {"{: ]", 3}, {"[: }", 3}, {"[:}", 2}, {"[&a}", 3}, {"{&a]", 3}, {"[\"a\"}", 4}, {"[*a}", 3}, {"{[a}]", 3}, {"[{a]}", 3}, {"[[]}", 3}, {"{{}]", 3}, {"[a #c\n}", 6},
	// what begins nothing
	{"[-]", 1}, {"[- a]", 1}, {"[-\n]", 1}, {"[?]", 1}, {"[?,]", 1}, {"{?}", 1}, {"{?[a]}", 1}, {"[|]", 1}, {"[>\n a]", 1}, {"[@a]", 1}, {"[`a]", 1}, {"[%a]", 1}, {"[#a]", 1}, {"{#a\n}", 1}, {"[a,#b\n]", 3}, {"[a, |\n]", 4}, {"[a, -]", 4}, {"[a: -]", 4}, {"[a: ? b]", 4}, {"[a: : b]", 4}, {"[a:: b: c]", 6}, {"[: : a]", 3}, {"[? ? a]", 3}, {"[? - a]", 3}, {"[? #a\n - b]", 7}, {"{a: |\n b}", 4}, {"{a: - b}", 4}, {"{a: : b}", 4}, {"{: : a}", 3}, {"{? ? a}", 3}, {"{? -}", 3}, {"{\"a\":%}", 5}, {"{\"a\":#}", 5}, {"{\"a\": : b}", 6}, {"{\"a\"::}", 5}, {"{a: ?}", 4},
	// behind a node
	{"[\"a\" b]", 5}, {"[\"a\"b]", 4}, {"['a'\"b\"]", 4}, {"['a''b' c]", 8}, {"[\"a\"#c]", 4}, {"[\"a\" [b]]", 5}, {"[[a] b]", 5}, {"[[a]b]", 4}, {"[[][]]", 3}, {"[{}[]]", 3}, {"[{} #c\n {}]", 8}, {"[*a b]", 4}, {"[*a *b]", 4}, {"[*a[b]]", 3}, {"[*a :b]", 4}, {"[*a &b]", 4}, {"[a[b]]", 2}, {"[a [b]]", 3}, {"[a {b}]", 3}, {"[a: b: c]", 5}, {"[a: b : c]", 6}, {"[a: \"b\":c]", 7}, {"[a: [b]: c]", 7}, {"[a: \"b\" c]", 8}, {"[: a: b]", 4}, {"[? a : b : c]", 9}, {"[? \"a\" b]", 7}, {"[? [a] ? b]", 7}, {"[&a ? b]", 4}, {"[&a - b]", 4}, {"[&a | b]", 4}, {"[&a #c\n ? b]", 8}, {"[a\n#c\n b]", 7}, {"[a #c\n b: c]", 7}, {"[a: b #c\n d]", 10},
	{"{a: b c: d}", 7}, {"{a: b: c}", 5}, {"{\"a\" \"b\"}", 5}, {"{\"a\" b: c}", 5}, {"{\"a\"b: c}", 4}, {"{[a] [b]}", 5}, {"{*a b}", 4}, {"{*a :b}", 4}, {"{*a: b}", 5}, {"{a: \"b\" :c}", 8}, {"{a: [b]:c}", 7}, {"{&a ? b}", 4}, {"{&a : b : c}", 8}, {"{? a : b : c}", 9}, {"{a #c\n b}", 7}, {"{a #c\n #d\n b: c}", 11},
	// a sign that is not in the row of its key, or behind a key that is not in one row
	{"[a\n: b]", 3}, {"[a\n\n : b]", 5}, {"[a #c\n : b]", 7}, {"[a\n b: c]", 5}, {"[a\n b\n : c]", 7}, {"[\"a\n b\": c]", 7}, {"[\"a\n b\":c]", 7}, {"[\"a\"\n:b]", 5}, {"['a' #c\n:b]", 8}, {"[[a]\n: b]", 5}, {"[[a\n]: b]", 5}, {"[[\n]:b]", 4}, {"[{}\n\n:b]", 5}, {"[{a: b,\n c: d} : e]", 15}, {"[&a\n b: c]", 6}, {"[&a\n : b]", 5}, {"[&a #c\n : b]", 8}, {"[&a #c\n b: c]", 9}, {"[*a\n : b]", 5}, {"[!t\n\"a\":b]", 7}, {"[a, b\n: c]", 6}, {"[a\n:]", 3}, {"[a\n:,b]", 3}, {"[[a\n: b]]", 4}, {"{a: [b\n: c]}", 7},
	// properties and aliases
	{"[&]", 1}, {"[& a]", 1}, {"[&,]", 1}, {"[&a &b]", 4}, {"[!t !u]", 4}, {"[&a\n&b c]", 4}, {"[!t\n !u]", 5}, {"[&a\n !t]", 5}, {"[&a *b]", 4}, {"[!t *b]", 4}, {"[&a\n *b]", 5}, {"[&a #c\n *b]", 8}, {"[&a *]", 4}, {"[!<a]", 2}, {"[!t\"a\"]", 3}, {"[!t\x00]", 3}, {"{&a *b : c}", 4}, {"{a: &b *c}", 7}, {"[? &a *b]", 6}, {"[: !t *b]", 6}, {"[*]", 1}, {"[* a]", 1}, {"[*,]", 1}, {"{a: *}", 4}, {"{*: a}", 4}, {"[a: & b]", 4},
	// within scalars
	{"[\"\\z\"]", 2}, {"[\"a]", 4}, {"['a]", 4}, {"['a''", 5}, {"[a, \"b\\", 6}, {"{\"a\":\"\\u00g0\"}", 6}, {"[\"a\n---\n\"]", 4}, {"{'a\n...\n': b}", 4}, {"[a, \"b", 6},
	// rows that are --- or ...
	{"[\n---\n]", 2}, {"[\n...\n]", 2}, {"[a\n---\n]", 3}, {"[a,\n--- b]", 4}, {"[a\n... b]", 3}, {"{a:\n---\n b}", 4}, {"{a\n--- : b}", 3}, {"{?\n---\n}", 3}, {"[&a\n---\n]", 4}, {"[ #c\n--- ]", 5}, {"[a #c\n\n...\n]", 7}, {"{\"a\"\n...\n:b}", 5}, {"[a: b\n---\n]", 6}, {"[a\n---", 3},
}

// indented are texts within a block collection of the column n, and where they are wrong, or -1.
var indented = []struct {
	s     string
	n, at int
}{
	{"[a\n b]", 1, 4}, {"[a\n b]", 0, -1}, {"[a\n  b]", 1, -1}, {"[a,\n b]", 1, 5}, {"[a,\nb]", 0, 4}, {"[a,\nb]", -1, -1}, {"[a,\n  b]", 1, -1}, {"[\n]", 0, 2}, {"[\n]", -1, -1}, {"[a\n ]", 1, 4}, {"[a\n ]", 0, -1}, {"[a\n, b]", 0, 3}, {"[a\n , b]", 0, -1}, {"[\ta,\n\tb]", 0, 6}, {"[\ta,\n\tb]", -1, -1}, {"[\ta,\n \tb]", 0, -1},
	{"{\n a}", 1, 3}, {"{a\n : b}", 1, 4}, {"{a:\n b}", 1, 5}, {"{?\n a}", 1, 4}, {"{? a\n : b}", 1, 6}, {"{\"a\"\n :b}", 1, 6}, {"[&a\n b]", 1, 5}, {"[&a\n b]", 0, -1}, {"[a:\n b]", 1, 5}, {"[?\n]", 0, 3}, {"[:\n a]", 2, 4}, {"[\"a\n b\"]", 1, 5}, {"[\"a\n b\"]", 0, -1}, {"['a\n\nb']", 0, 5},
	{"[ #c\nb]", 0, 5}, {"[ #c\n b]", 0, -1}, {"[a #c\n#d\n ]", 0, -1}, {"[a\n\n#c\n\n ]", 0, -1}, {"[a #c\n, b]", 0, 6}, {"[[\n a]]", 1, 4}, {"[a, [b,\n  c]\n ]", 1, 14}, {"[a: b,\n c: d]", 1, 8}, {"[a\n b: c]", 0, 5}, {"[a,\n b]", math.MaxInt, 5}, {"[a]", math.MaxInt, -1}, {"[\n]", math.MinInt, -1}, {"[\n--- ]", math.MinInt, 2}, {"[-\n a]", 5, 1}, {"[a,\n -]", 1, 5},
}

// deeps are texts in so many other collections, and where the first bracket or pair stands that is in too many, or -1.
var deeps = []struct {
	s        string
	deep, at int
}{
	// brackets
	{"[]", 39, -1}, {"[]", 40, 0}, {"{}", 39, -1}, {"{}", 40, 0}, {"[]", 41, 0}, {"[]", math.MaxInt, 0}, {"[a", 40, 0}, {"[]", 0, -1}, {"[]", -1, -1}, {"[[]]", math.MinInt, -1}, {"[[]]", 38, -1}, {"[[]]", 39, 1}, {"[{}]", 39, 1}, {"{[]}", 38, -1}, {"{[]}", 39, 1}, {"{{}}", 39, 1}, {"[a, []]", 39, 4}, {"[&a []]", 39, 4}, {"[\n&a\n[]]", 39, 5}, {"{a: []}", 38, -1}, {"{a: []}", 39, 4}, {"{? []}", 38, -1}, {"{? []}", 39, 3}, {"{: []}", 39, 3}, {"{[]: a}", 38, -1}, {"{[]: a}", 39, 1}, {"{&a []: b}", 39, 4}, {"{a: b}", 39, -1}, {"{? a : b, : c}", 39, -1}, {"[a, &b, *c, 'd']", 39, -1}, {"[[], [[]]]", 38, 6}, {"[[[]]]", 37, -1}, {"[[[]]]", 38, 2},
	// pairs
	{"[a: b]", 38, -1}, {"[a: b]", 39, 1}, {"[a : b]", 39, 1}, {"[a:]", 39, 1}, {"[\"a\":b]", 39, 1}, {"[\"a\" :b]", 39, 1}, {"[*a : b]", 39, 1}, {"[&a b: c]", 39, 1}, {"[&a : b]", 39, 1}, {"[a, b: c]", 39, 4}, {"[a,\n\n b: c]", 39, 6}, {"[? a]", 38, -1}, {"[? a]", 39, 1}, {"[? ]", 38, -1}, {"[? ]", 39, 1}, {"[a, ?\n b]", 39, 4}, {"[:]", 38, -1}, {"[:]", 39, 1}, {"[: a]", 39, 1}, {"[a, : b]", 39, 4}, {"[ #c\n : b]", 39, 6}, {"[[a: b]]", 37, -1}, {"[[a: b]]", 38, 2}, {"{a: [b: c]}", 37, -1}, {"{a: [b: c]}", 38, 5},
	// what they contain
	{"[a: []]", 37, -1}, {"[a: []]", 38, 4}, {"[a: &b []]", 38, 7}, {"[: []]", 37, -1}, {"[: []]", 38, 3}, {"[? a : []]", 38, 7}, {"[? : []]", 38, 5}, {"[? []]", 37, -1}, {"[? []]", 38, 3}, {"[? &a []]", 38, 6}, {"[? [] : a]", 38, 3}, {"[a: {}]", 38, 4}, {"[a: [b: c]]", 36, -1}, {"[a: [b: c]]", 37, 5}, {"[? [a: b]]", 37, 4},
	// keys that were read as items
	{"[[]: a]", 37, -1}, {"[[]: a]", 38, 1}, {"[[]: a]", 39, 1}, {"[{}: a]", 37, -1}, {"[{}: a]", 38, 1}, {"[[]:a]", 38, 1}, {"[&a []: b]", 38, 1}, {"[&a []: b]", 39, 4}, {"[a, []: b]", 38, 4}, {"[[], [] : b]", 38, 5}, {"[[[]]: a]", 36, -1}, {"[[[]]: a]", 37, 1}, {"[[[]]: a]", 38, 2}, {"[[], [[]]: a]", 37, 5}, {"[[a, []]: b]", 37, 1}, {"[[[], a]: b]", 37, 1}, {"[{a: []}: b]", 37, 1}, {"[{[]: a}: b]", 37, 1}, {"[{a: [], b: c}: d]", 37, 1}, {"[{a: []}: b]", 36, -1}, {"[[a: b]: c]", 36, -1}, {"[[a: b]: c]", 37, 1}, {"[[a: b]: c]", 38, 2}, {"[[? ]: c]", 37, 1}, {"[[:]: c]", 37, 1}, {"[[[]: b]: c]", 35, -1}, {"[[[]: b]: c]", 36, 1}, {"[[[]: b]: c]", 37, 2}, {"[[a: []]: c]", 36, 1}, {"[[a, b: c]:]", 37, 1}, {"[{a: b}: c]", 37, -1}, {"[[a]: [b]]", 37, -1}, {"[[a]: [[b]]]", 37, 7},
}

// mixed are texts in so many other collections that are wrong in another way ahead of being too deep, or only behind that.
var mixed = []struct {
	s        string
	deep, at int
	code     api.Errno
}{
	{"x", 40, 0, api.ErrForm}, {"", 99, 0, api.ErrForm}, {"]", math.MaxInt, 0, api.ErrForm}, {"[?]", 39, 1, api.ErrForm}, {"[a\n: b]", 39, 3, api.ErrForm}, {"[a #c\n : b]", 39, 7, api.ErrForm}, {"[[] b]", 38, 4, api.ErrForm}, {"[a, , b: c]", 39, 4, api.ErrForm}, {"[&a &b: c]", 39, 4, api.ErrForm}, {"[*a :b]", 39, 4, api.ErrForm}, {"[\"a\\z\": b]", 39, 3, api.ErrForm}, {"[[\n]: a]", 38, 4, api.ErrForm}, {"[a, b", 39, 5, api.ErrForm}, {"[a\n---\n: b]", 39, 3, api.ErrForm}, {"{a: b: []}", 39, 5, api.ErrForm}, {"[[a: b]: , ]", 40, 0, api.ErrDeep},
	{"[a: b", 39, 1, api.ErrDeep}, {"[a: ,,", 39, 1, api.ErrDeep}, {"[[]: ", 38, 1, api.ErrDeep}, {"[? &]", 39, 1, api.ErrDeep}, {"[: -]", 39, 1, api.ErrDeep}, {"[[,]]", 39, 1, api.ErrDeep}, {"[[}", 39, 1, api.ErrDeep}, {"[?\n---\n]", 39, 1, api.ErrDeep}, {"[[a: b]: c: d]", 37, 1, api.ErrDeep}, {"[[]}", 39, 1, api.ErrDeep},
}

// samples are all the texts above.
func samples() (all []string) {
	for _, c := range slices.Concat(collections, commented) {
		all = append(all, c.s)
	}
	for _, c := range refused {
		all = append(all, c.s)
	}
	for _, c := range indented {
		all = append(all, c.s)
	}
	for _, c := range deeps {
		all = append(all, c.s)
	}
	for _, c := range mixed {
		all = append(all, c.s)
	}
	return all
}

// ahead are texts ahead of a collection, at which Read doesn't look.
var ahead = []string{"", " ", "[", "{a: ", "x: ", "- ", "\"", "'", "&a ", "# ", "\n", "\n\n ", "é", "\xff", "a\n\n\t"}

// 16.1 to 16.5: what a collection contains, and the offset behind it, whatever stands around.
func TestRead(t *testing.T) {
	for _, c := range slices.Concat(collections, commented) {
		for _, before := range ahead {
			for _, after := range []string{"", " ", "]", "}", ",", ": a", "x", " #x", "\n\n", "\n---", "\xff"} {
				s, at := before+c.s+after, len(before)
				if node, to, e := flow.Read(s, at, -1, 0); show(node) != c.want || to != at+len(c.s) || e != api.OK {
					t.Errorf("Read(%q, %d, -1, 0) = %s, %d, %d, want %s", s, at, show(node), to, e, c.want)
				}
			}
		}
	}
}

// 16.1, 16.3, 16.4: the first byte of each node, or -1: of the collection, of the first item or key, of its kids, and so on.
func TestPlaces(t *testing.T) {
	for _, c := range []struct {
		s    string
		want []int
	}{
		{"[]", []int{0}}, {"{ }", []int{0}}, {"[ a,  b]", []int{0, 2, 6}}, {"[\n a]", []int{0, 3}}, {"[[], [a]]", []int{0, 1, 5, 6}}, {"{a: [b]}", []int{0, 1, 4, 5}}, {"['a', \"b\", *c]", []int{0, 1, 6, 11}}, {"[é, a]", []int{0, 1, 5}},
		{"[&a b]", []int{0, 1}}, {"[ !t &a\n\n b]", []int{0, 2}}, {"[&a [b]]", []int{0, 1, 5}}, {"[!t {&a b: c}]", []int{0, 1, 5, 11}}, {"[&a]", []int{0, 1}}, {"[a, !t ]", []int{0, 1, 4}}, {"{a: &b}", []int{0, 1, 4}}, {"{ &a : b}", []int{0, 2, 7}}, {"[&a #c\n b]", []int{0, 1}},
		{"{a}", []int{0, 1, -1}}, {"{a: }", []int{0, 1, -1}}, {"{: a}", []int{0, -1, 3}}, {"{:}", []int{0, -1, -1}}, {"{? }", []int{0, -1, -1}}, {"{? a : b}", []int{0, 3, 7}}, {"{? : a}", []int{0, -1, 5}}, {"{? [a]}", []int{0, 3, 4, -1}}, {"{\"a\":b, c}", []int{0, 1, 5, 8, -1}},
		{"[a: b]", []int{0, 1, 1, 4}}, {"[ a : b]", []int{0, 2, 2, 6}}, {"[a:]", []int{0, 1, 1, -1}}, {"[: b]", []int{0, 1, -1, 3}}, {"[ :]", []int{0, 2, -1, -1}}, {"[ ? a : b]", []int{0, 2, 4, 8}}, {"[?\n a]", []int{0, 1, 4, -1}}, {"[? ]", []int{0, 1, -1, -1}}, {"[? : b]", []int{0, 1, -1, 5}}, {"[&a b: c]", []int{0, 1, 1, 7}}, {"[&a : b]", []int{0, 1, 1, 6}}, {"[? &a b]", []int{0, 1, 3, -1}}, {"[[a]: b]", []int{0, 1, 1, 2, 6}}, {"[ #c\n ? #d\n a]", []int{0, 6, 12, -1}}, {"[a, b: c]", []int{0, 1, 4, 4, 7}},
	} {
		for _, before := range ahead {
			want := slices.Clone(c.want)
			for i := range want {
				if want[i] >= 0 {
					want[i] += len(before)
				}
			}
			s := before + c.s
			if node, to, e := flow.Read(s, len(before), -1, 0); !slices.Equal(places(node), want) || to != len(s) || e != api.OK {
				t.Errorf("Read(%q, %d, -1, 0) has the places %v, %d, %d, want %v", s, len(before), places(node), to, e, want)
			}
		}
	}
}

// checkRefused holds one place in s to a code, with nothing beside it.
func checkRefused(t *testing.T, s string, at, n, deep, wrong int, code api.Errno) {
	t.Helper()
	if node, to, e := flow.Read(s, at, n, deep); !same(node, api.Node{}) || to != wrong || e != code {
		t.Errorf("Read(%q, %d, %d, %d) = %s, %d, %d, want %d at %d", s, at, n, deep, show(node), to, e, code, wrong)
	}
}

// 16.1 to 16.4: what may not stand at its place, whatever stands ahead of the collection.
func TestErrForm(t *testing.T) {
	for _, c := range refused {
		for _, before := range ahead {
			checkRefused(t, before+c.s, len(before), -1, 0, len(before)+c.at, api.ErrForm)
		}
	}
}

// 16.2: rows that are not far enough in.
func TestColumns(t *testing.T) {
	for _, c := range indented {
		for _, before := range ahead {
			s, at := before+c.s, len(before)
			if c.at >= 0 {
				checkRefused(t, s, at, c.n, 0, at+c.at, api.ErrForm)
			} else if _, to, e := flow.Read(s, at, c.n, 0); to != len(s) || e != api.OK {
				t.Errorf("Read(%q, %d, %d, 0) = %d, %d", s, at, c.n, to, e)
			}
		}
	}
}

// 16.1: collections and pairs that too many others contain.
func TestDeep(t *testing.T) {
	for _, c := range deeps {
		for _, before := range ahead {
			s, at := before+c.s, len(before)
			if c.at >= 0 {
				checkRefused(t, s, at, -1, c.deep, at+c.at, api.ErrDeep)
			} else if _, to, e := flow.Read(s, at, -1, c.deep); to != len(s) || e != api.OK {
				t.Errorf("Read(%q, %d, -1, %d) = %d, %d", s, at, c.deep, to, e)
			}
		}
		// the same within brackets of the text itself
		if c.deep >= 0 && c.deep <= api.MaxDeep {
			open, shut := strings.Repeat("[", c.deep), strings.Repeat("]", c.deep)
			if c.at >= 0 {
				checkRefused(t, open+c.s+shut, 0, -1, 0, c.deep+c.at, api.ErrDeep)
			} else if _, to, e := flow.Read(open+c.s+shut, 0, -1, 0); to != 2*c.deep+len(c.s) || e != api.OK {
				t.Errorf("Read(%q, 0, -1, 0) = %d, %d", open+c.s+shut, to, e)
			}
		}
	}
	// no depth is less than none
	for _, deep := range []int{0, -1, -2, -5, -41, math.MinInt + 1, math.MinInt} {
		for _, c := range [][2]string{{"[", "]"}, {"{", "}"}, {"[a, ", "]"}, {"{? ", "}"}, {"{a: ", "}"}} {
			open, shut := strings.Repeat(c[0], api.MaxDeep), strings.Repeat(c[1], api.MaxDeep)
			if _, to, e := flow.Read(open+shut, 0, -1, deep); to != len(open+shut) || e != api.OK {
				t.Errorf("Read(%q, 0, -1, %d) = %d, %d", open+shut, deep, to, e)
			}
			checkRefused(t, open+"[]"+shut, 0, -1, deep, len(open), api.ErrDeep)
			checkRefused(t, open+"{"+shut, 0, -1, deep, len(open), api.ErrDeep)
		}
		open := strings.Repeat("[", api.MaxDeep)
		checkRefused(t, open+"a: b", 0, -1, deep, len(open), api.ErrDeep)
		checkRefused(t, open[1:]+"[]: b", 0, -1, deep, len(open)-1, api.ErrDeep)
	}
	for _, c := range mixed {
		for _, before := range ahead {
			checkRefused(t, before+c.s, len(before), -1, c.deep, len(before)+c.at, c.code)
		}
	}
}

// 16.1 to 16.6: the samples and the chapter's words agree, in every place, column and depth.
func TestSamples(t *testing.T) {
	for _, s := range samples() {
		for _, before := range []string{"", "\n", "[a: ", "{\n\n", "? "} {
			check(t, before+s)
		}
		for n := -2; n <= 4; n++ {
			checkAt(t, s, 0, n, 0)
		}
		for deep := api.MaxDeep - 6; deep <= api.MaxDeep+1; deep++ {
			checkAt(t, s, 0, -1, deep)
		}
	}
}

// 16.1, 16.8: any place, column and depth may be handed in; where s has no byte, no bracket stands.
func TestFarPlaces(t *testing.T) {
	far := []int{math.MinInt, math.MinInt + 1, math.MinInt32, -41, -2, -1, 0, 1, 39, 40, math.MaxInt32, math.MaxInt - 1, math.MaxInt}
	for _, s := range samples() {
		for _, x := range far {
			checkAt(t, s, x, -1, 0)
			checkAt(t, s, 0, x, 0)
			checkAt(t, s, 0, -1, x)
			if x < 0 || x >= len(s) {
				checkRefused(t, s, x, x, x, x, api.ErrForm)
			}
		}
		for _, at := range []int{len(s), len(s) + 1, 2*len(s) + 2, -len(s) - 1} {
			checkRefused(t, s, at, 0, 40, at, api.ErrForm)
		}
	}
}

// 16.1 to 16.6, 16.8: every text of so many parts of those of which collections are made.
func TestEveryText(t *testing.T) {
	at := func(n, deep int) func(string) (int, bool) {
		return func(s string) (int, bool) { return checkAt(t, s, 0, n, deep) }
	}
	grow("", []string{"[", "]", "{", "}", ",", ":", "?", "-", " ", "a"}, 7, at(-1, 0))
	grow("", []string{"[", "]", "{", ",", ":", "? ", "\"a\"", "'b\n'", " ", "\n"}, 6, at(-1, 0))
	grow("", []string{"[", "]", "{", "}", ",", ": ", "&a ", "!t", "*b ", "c", "\n"}, 6, at(-1, 0))
	for _, open := range []string{"[", "{"} {
		grow(open, []string{"]", "}", ",", ": ", "? ", "a", "&b", " #c\n", "\n", "\n\n"}, 6, at(-1, 0))
		grow(open, []string{"]", "}", ", ", ":", "?\t", "[]", "!t\n", "#\td \n", " ", "\n"}, 6, at(-1, 0))
		for n := -1; n <= 2; n++ {
			grow(open, []string{"]", "}", ",", ":", "?", "a", "\"b", "\"", "\n", " ", "\t", "---", "#"}, 4, at(n, 0))
		}
	}
	for deep := api.MaxDeep - 4; deep <= api.MaxDeep; deep++ {
		grow("[", []string{"[", "]", "{", "}", ":", "? ", "a", ","}, 6, at(-1, deep))
	}
	var every func(string, int)
	every = func(s string, n int) { // also of parts that go on behind what is wrong
		check(t, s)
		for _, p := range []string{"[", "]", "{", ",", ":", "?", " ", "a", "\n"} {
			if n > 0 {
				every(s+p, n-1)
			}
		}
	}
	every("", 4)
}

// 16.1 to 16.6, 16.8: every byte, and runes of which one byte is an indicator's, within each of the samples and in the place of each of their bytes; and each sample cut, without one of its bytes, and with one twice.
func TestEveryByte(t *testing.T) {
	var all, few []string
	for i := range 0x100 {
		all = append(all, string([]byte{byte(i)}))
	}
	for _, c := range "\t\n ,[]{}?:#&*!'\"-|>%@`.<a0\\\r\x00\x7f" {
		few = append(few, string(c))
	}
	for _, c := range "\t\n ,[]{}?:#&*!'\"-" {
		few = append(few, string(0x100+c))
	}
	for _, s := range samples() {
		others := few
		if len(s) < 6 {
			others = append(all, few...)
		}
		for i := range len(s) + 1 {
			behind := s[min(i+1, len(s)):]
			for _, k := range []string{s[:i], s[:i] + behind, s[:min(i+1, len(s))] + s[i:]} {
				checkAt(t, k, 0, -1, 0)
			}
			checkAt(t, s, i, -1, 0)
			for _, o := range others {
				checkAt(t, s[:i]+o+behind, 0, -1, 0)
				checkAt(t, s[:i]+o+s[i:], 0, -1, 0)
			}
		}
	}
}

// 16.1: what stands behind a collection says nothing of it, and what is wrong is wrong whatever stands behind that.
func TestNothingBehind(t *testing.T) {
	for _, s := range samples() {
		node, to, e := flow.Read(s, 0, -1, 0)
		if e != api.OK {
			continue
		}
		for _, after := range []string{"", " ", ":", ": ", "]", ",", "\n", "#", "a", "\"", "\xff"} {
			if again, end, e := flow.Read(s[:to]+after, 0, -1, 0); !same(again, node) || end != to || e != api.OK {
				t.Errorf("Read(%q, 0, -1, 0) = %s, %d, %d, without %q %s, %d", s[:to]+after, show(again), end, e, after, show(node), to)
			}
		}
	}
}

// 16.7 (W1): there is a collection with the offset after its bracket, or a code at a place from at on with nothing beside it.
func TestEitherOr(t *testing.T) {
	either := func(s string, at, n, deep int) {
		node, to, e := flow.Read(s, at, n, deep)
		switch {
		case e == api.OK && (to <= at || to > len(s) || strings.IndexByte("[{", s[at]) != strings.IndexByte("]}", s[to-1]) || node.At != at || node.Style != api.SFlow),
			e != api.OK && (!same(node, api.Node{}) || to < at || to > len(s) || e != api.ErrForm && e != api.ErrDeep),
			e == api.ErrForm && deep >= api.MaxDeep && to > at, e == api.ErrDeep && strings.IndexByte("[{", s[at]) < 0:
			t.Fatalf("Read(%q, %d, %d, %d) = %s, %d, %d", s, at, n, deep, show(node), to, e)
		}
	}
	for _, s := range samples() {
		for at := range len(s) {
			for _, deep := range []int{0, 38, 39, 40} {
				either(s, at, at%3-1, deep)
			}
		}
	}
	for _, deep := range []int{0, 37, 39, 40} {
		grow("", []string{"[", "]", "{", ", ", ": ", "? ", "a", "\"", "#", "\n"}, 4, func(s string) (int, bool) {
			for at := range len(s) {
				either(s, at, -1, deep)
			}
			return len(s), false
		})
	}
}

// told returns what chapter 19 lists of a node: its texts and its comments in their order.
func told(node api.Node) (all []string) {
	notes := func(l []api.Comment) {
		for _, c := range l {
			all = append(all, "#"+c.Text)
		}
	}
	notes(node.Lead)
	switch {
	case node.Kind == api.KAlias:
		all = append(all, "*"+node.Text)
	case node.Text != "":
		all = append(all, "="+node.Text)
	}
	for _, kid := range node.Kids {
		all = append(all, told(kid)...)
	}
	notes(node.Foot)
	if node.HasTrail {
		all = append(all, "#"+node.Trail)
	}
	return all
}

var numbered = regexp.MustCompile(`[#a][0-9]+`)

// 16.7 (W3): no comment is left out, told twice or told at another place among the texts, wherever comments and commas stand.
func TestKeepsComments(t *testing.T) {
	for _, open := range []string{"[", "{"} {
		grow(open, []string{"]", "}", ", ", ": ", "? ", "[", "&b ", "a", "\n", " #\n"}, 6, func(s string) (int, bool) {
			// each text and each comment has a number, so that no two are the same
			var out strings.Builder
			for i := range len(s) {
				out.WriteByte(s[i])
				if s[i] == '#' || s[i] == 'a' {
					out.WriteString(strconv.Itoa(i))
				}
			}
			node, to, e := flow.Read(out.String(), 0, -1, 0)
			got, want := numbered.FindAllString(strings.Join(told(node), " "), -1), numbered.FindAllString(out.String(), -1)
			if e == api.OK && to == out.Len() && !slices.Equal(got, want) {
				t.Fatalf("%q tells %q, want %q", out.String(), got, want)
			}
			if to == out.Len() {
				to = len(s)
			}
			return to, e == api.OK
		})
	}
}

// count returns how many nodes and comments there are in a node, itself among them.
func count(node api.Node) (nodes, notes int) {
	nodes, notes = 1, len(node.Lead)+len(node.Foot)
	if node.HasTrail {
		notes++
	}
	for _, kid := range node.Kids {
		in, of := count(kid)
		nodes, notes = nodes+in, notes+of
	}
	return nodes, notes
}

// 16.1 to 16.6, 16.8: many entries, comments, rows and blank rows, long scalars, and long keys within keys.
func TestLong(t *testing.T) {
	const n = 1 << 14
	many := func(s string) string { return strings.Repeat(s, n) }
	keys := "a"
	for range 12 {
		keys = "[" + keys + "]: a"
	}
	for _, c := range []struct {
		s            string
		nodes, notes int
	}{
		{"[" + many("a,") + "]", 1 + n, 0}, {"[" + many("a") + "]", 2, 0}, {"[" + many("a ") + "]", 2, 0}, {"[" + many("a\n") + "]", 2, 0}, {"[\"" + many("a\n") + "\"]", 2, 0}, {"{" + many("a,") + "}", 1 + 2*n, 0}, {"{" + many("a: b, ") + "}", 1 + 2*n, 0}, {"[" + many("a: b, ") + "]", 1 + 3*n, 0}, {"[" + many("? ,") + "]", 1 + 3*n, 0}, {"[" + many("[],") + "]", 1 + n, 0}, {"{? " + many("\n") + "}", 3, 0}, {"[" + many("\n") + "a" + many("\n") + "," + many(" ") + "]", 2, 0}, {"[&" + many("a") + " !" + many("t") + "]", 2, 0}, {"[*" + many("*") + "]", 2, 0},
		{"[" + many(" #c\n") + "]", 1, n}, {"[a" + many(" #c\n") + "]", 2, n}, {"[a," + many(" #c\n") + " b" + many(" #d\n") + "]", 3, 2 * n}, {"[" + many("a #c\n,\n #d\n") + "]", 1 + n, 2 * n}, {"{" + many("a #c\n : #d\n b #e\n, ") + "}", 1 + 2*n, 3 * n}, {"[&a" + many("\n#c\n\n") + "b]", 2, n}, {"[a #" + many("c") + "\n]", 2, 1}, {"{a:" + many("\n#c") + "\n}", 3, n},
		{"[" + keys + "]", 2 + 3*12, 0}, {"[[" + many("a,") + "]: b]", 4 + n, 0}, {"[[[[[[[[[" + many("a: b,") + "]: a]: a]: a]: a]: a]: a]: a]: a]", 1 + 8*3 + 3*n, 0}, {strings.Repeat("[a, ", 40) + many("b") + strings.Repeat("]", 40), 81, 0}, {strings.Repeat("{a: ", 40) + many("b ") + strings.Repeat("}", 40), 81, 0}, {strings.Repeat("{? ", 40) + many("b ") + strings.Repeat("}", 40), 81, 0},
	} {
		node, to, e := flow.Read(c.s, 0, -1, 0)
		if nodes, notes := count(node); nodes != c.nodes || notes != c.notes || to != len(c.s) || e != api.OK {
			t.Errorf("Read(%.20q..) has %d nodes, %d comments, %d, %d, want %d, %d, %d", c.s, nodes, notes, to, e, c.nodes, c.notes, len(c.s))
		}
		checkRefused(t, c.s[:len(c.s)-1], 0, -1, 0, len(c.s)-1, api.ErrForm)
	}
	if node, _, _ := flow.Read("["+many("\n")+"a,"+many("\n")+"b]", 0, -1, 0); node.Kids[0].Blank != n-1 || node.Kids[1].Blank != n-1 {
		t.Errorf("%d and %d blank rows, want %d", node.Kids[0].Blank, node.Kids[1].Blank, n-1)
	}
	for _, s := range []string{many("["), many("{"), many("[a: "), many("[? "), many("{? "), many("{a: "), many("[a,"), many("[\n"), many("[ #c\n")} {
		if node, to, e := flow.Read(s, 0, -1, 0); !same(node, api.Node{}) || to > 400 || e != api.ErrDeep {
			t.Errorf("Read(%.20q..) = %s, %d, %d", s, show(node), to, e)
		}
	}
}

// slice is the memory of one: where it begins and ends, with its spare capacity.
type slice struct{ from, to uintptr }

func sliceOf[T any](l []T) slice {
	from := uintptr(unsafe.Pointer(unsafe.SliceData(l)))
	var one T
	return slice{from, from + uintptr(cap(l))*unsafe.Sizeof(one)}
}

// memory returns the slices and the texts in a node.
func memory(node api.Node) (lists []slice, texts []string) {
	lists = []slice{sliceOf(node.Kids), sliceOf(node.Lead), sliceOf(node.Foot)}
	texts = []string{node.Anchor, node.Tag, node.Text, node.Trail}
	for _, c := range slices.Concat(node.Lead, node.Foot) {
		texts = append(texts, c.Text)
	}
	for _, kid := range node.Kids {
		in, of := memory(kid)
		lists, texts = append(lists, in...), append(texts, of...)
	}
	return lists, texts
}

// 16.1, 16.6: what is answered has memory of its own: none of it is of the text, and no two slices have some in common, in one answer or in two.
func TestOwnMemory(t *testing.T) {
	for _, text := range samples() {
		s := strings.Clone(text)
		first, _, _ := flow.Read(s, 0, -1, 0)
		second, _, _ := flow.Read(s, 0, -1, 0)
		lists, texts := memory(first)
		again, _ := memory(second)
		lists = slices.DeleteFunc(append(lists, again...), func(l slice) bool { return l.from == l.to })
		slices.SortFunc(lists, func(a, b slice) int { return int(a.from) - int(b.from) })
		for i := range lists {
			if i > 0 && lists[i].from < lists[i-1].to {
				t.Errorf("of %q: two slices share memory", s)
			}
		}
		from := uintptr(unsafe.Pointer(unsafe.StringData(s)))
		for _, x := range texts {
			if at := uintptr(unsafe.Pointer(unsafe.StringData(x))); x != "" && from <= at && at < from+uintptr(len(s)) {
				t.Errorf("of %q: the memory of %q is that of the text", s, x)
			}
		}
	}
}
