package grap_test

import (
	"fmt"
	"reflect"
	"slices"
	"strconv"
	"strings"
	"testing"
	"unsafe"

	"bosket/api"
	"bosket/grap"
	"bosket/stre"
)

const long = "tag:yaml.org,2002:"

// told tells a vertex: its tag (YAML's own without what is ahead of the last colon), and its text behind a =, or its Kids in [ ] or { }.
func told(v api.Vertex) string {
	s := v.Tag
	if word, ok := strings.CutPrefix(s, long); ok {
		s = ":" + word
	}
	if v.Kind == api.KScalar || v.Text != "" {
		s += "=" + strconv.Quote(v.Text)
	}
	var kids []string
	for _, kid := range v.Kids {
		kids = append(kids, strconv.Itoa(kid))
	}
	in := strings.Join(kids, " ")
	switch {
	case v.Kind == api.KSeq:
		return s + "[" + in + "]"
	case v.Kind == api.KMap:
		return s + "{" + in + "}"
	case v.Kind != api.KScalar || in != "":
		return s + "?" + strconv.Itoa(v.Kind) + "(" + in + ")"
	}
	return s
}

// show tells a graph, vertex by vertex.
func show(graph []api.Vertex) string {
	var all []string
	for _, v := range graph {
		all = append(all, told(v))
	}
	return strings.Join(all, " ")
}

// showAll tells graphs, with | between.
func showAll(graphs [][]api.Vertex) string {
	var all []string
	for _, g := range graphs {
		all = append(all, show(g))
	}
	return strings.Join(all, " | ")
}

// graphs are texts, and the graphs of their documents.
var graphs = []struct{ s, want string }{
	// the chapter's example
	{"&a [*a]", `:seq[0]`},
	// no document
	{"", ""}, {"# a", ""}, {"...\n", ""},
	// numbers, in the order in which nodes begin
	{"a", `:str="a"`}, {"[]", `:seq[]`}, {"{}", `:map{}`}, {"[a, b]", `:seq[1 2] :str="a" :str="b"`}, {"- a\n- b\n- c", `:seq[1 2 3] :str="a" :str="b" :str="c"`}, {"- - a\n  - b\n- - - c\n- d", `:seq[1 4 7] :seq[2 3] :str="a" :str="b" :seq[5] :seq[6] :str="c" :str="d"`}, {"a: b\nc: d", `:map{1 2 3 4} :str="a" :str="b" :str="c" :str="d"`}, {"a:\n  b: [c, d]\n  e: f\ng: h", `:map{1 2 9 10} :str="a" :map{3 4 7 8} :str="b" :seq[5 6] :str="c" :str="d" :str="e" :str="f" :str="g" :str="h"`}, {"? [a, b]\n: - c\n? d: e", `:map{1 4 6 9} :seq[2 3] :str="a" :str="b" :seq[5] :str="c" :map{7 8} :str="d" :str="e" :null=""`}, {"[[], [a], {}, [[b]]]", `:seq[1 2 4 5] :seq[] :seq[3] :str="a" :map{} :seq[6] :seq[7] :str="b"`}, {"[a: b, c]", `:seq[1 4] :map{2 3} :str="a" :str="b" :str="c"`}, {"[[a]: {b: c}]", `:seq[1] :map{2 4} :seq[3] :str="a" :map{5 6} :str="b" :str="c"`},
	// empty nodes have numbers, too
	{"---", `:null=""`}, {"- \n- a\n-", `:seq[1 2 3] :null="" :str="a" :null=""`}, {"a:\nb:", `:map{1 2 3 4} :str="a" :null="" :str="b" :null=""`}, {"?\n:\n", `:map{1 2} :null="" :null=""`}, {"{a, : b, c: }", `:map{1 2 3 4 5 6} :str="a" :null="" :null="" :str="b" :str="c" :null=""`}, {"[? , : , ? a]", `:seq[1 4 7] :map{2 3} :null="" :null="" :map{5 6} :null="" :null="" :map{8 9} :str="a" :null=""`},
	// the same twice in no alias is not the same node
	{"[a, a, [], []]", `:seq[1 2 3 4] :str="a" :str="a" :seq[] :seq[]`}, {"{a: b, a: b}", `:map{1 2 3 4} :str="a" :str="b" :str="a" :str="b"`},
	// aliases
	{"[&a x, *a]", `:seq[1 1] :str="x"`}, {"- &a x\n- *a\n- *a\n- y", `:seq[1 1 1 2] :str="x" :str="y"`}, {"[&a x, &b y, *b, *a, *b]", `:seq[1 2 2 1 2] :str="x" :str="y"`}, {"[[&a x], [[*a]]]", `:seq[1 3] :seq[2] :str="x" :seq[4] :seq[2]`}, {"&a x: *a", `:map{1 1} :str="x"`}, {"a: &b c\n*b : d", `:map{1 2 2 3} :str="a" :str="c" :str="d"`}, {"? &a [b]\n: *a", `:map{1 1} :seq[2] :str="b"`}, {"{a: &a {b: &b c}, d: *a, e: *b}", `:map{1 2 5 2 6 4} :str="a" :map{3 4} :str="b" :str="c" :str="d" :str="e"`}, {"[&a , *a]", `:seq[1 1] :null=""`}, {"- &a\n- *a", `:seq[1 1] :null=""`}, {"? &a\n: *a", `:map{1 1} :null=""`}, {"- &a !t\n- *a", `:seq[1 1] !t=""`}, {"[&a x, *a : *a]", `:seq[1 2] :str="x" :map{1 1}`}, {"[&a x, ? *a]", `:seq[1 2] :str="x" :map{1 3} :null=""`}, {"- &a |\n x\n- *a", `:seq[1 1] :str="x\n"`}, {"- &a 'x'\n- *a\n- &a \"y\"\n- *a", `:seq[1 1 2 2] :str="x" :str="y"`},
	// of a name given twice, the last node before the alias
	{"[&a x, *a, &a y, *a]", `:seq[1 1 2 2] :str="x" :str="y"`}, {"[&a x, &a y, &a z, *a]", `:seq[1 2 3 3] :str="x" :str="y" :str="z"`}, {"[&a x, *a, &a x, *a, *a]", `:seq[1 1 2 2 2] :str="x" :str="x"`}, {"[&a x, [&a y], *a]", `:seq[1 2 3] :str="x" :seq[3] :str="y"`}, {"[&a x, [&a y, *a], *a, &a z, *a]", `:seq[1 2 3 4 4] :str="x" :seq[3 3] :str="y" :str="z"`}, {"[&a [&a x, *a], *a]", `:seq[1 2] :seq[2 2] :str="x"`}, {"&a [*a, &a x, *a]", `:seq[0 1 1] :str="x"`}, {"[&a x, &b y, &a z, *b, *a]", `:seq[1 2 3 2 3] :str="x" :str="y" :str="z"`}, {"&a [*a, &a [*a, &a [*a], *a], *a]", `:seq[0 1 2] :seq[1 2 2] :seq[2]`}, {"{&a x: *a, &a y: *a, *a : *a}", `:map{1 1 2 2 2 2} :str="x" :str="y"`},
	// within a node, its own alias
	{"&a {*a : *a}", `:map{0 0}`}, {"&a [&b [*a, *b], *b]", `:seq[1 1] :seq[0 1]`}, {"&a\n- *a\n- - *a", `:seq[0 1] :seq[0]`}, {"&a\nb: *a", `:map{1 0} :str="b"`}, {"--- &a\n? *a\n: *a\n", `:map{0 0}`}, {"[&a [[[*a]]], *a]", `:seq[1 1] :seq[2] :seq[3] :seq[1]`}, {"- &a\n  b: *a\n- *a", `:seq[1 1] :map{2 1} :str="b"`}, {"[&a {x: &b [*a, *b]}, *b]", `:seq[1 3] :map{2 3} :str="x" :seq[1 3]`}, {"[&a [*a : *a]]", `:seq[1] :seq[2] :map{1 1}`},
	// names
	{"[&a x, &A y, &aa z, *A, *a, *aa]", `:seq[1 2 3 2 1 3] :str="x" :str="y" :str="z"`}, {"[&é x, &e y, *é]", `:seq[1 2 1] :str="x" :str="y"`}, {"- &a:b x\n- &a y\n- *a:b", `:seq[1 2 1] :str="x" :str="y"`}, {"[&*a x, &&a y, &!a z, &# w, **a, *&a, *!a, *#]", `:seq[1 2 3 4 1 2 3 4] :str="x" :str="y" :str="z" :str="w"`}, {"[&a b, &b a, *a, *b]", `:seq[1 2 1 2] :str="b" :str="a"`}, {"- &1 x\n- &01 y\n- *1", `:seq[1 2 1] :str="x" :str="y"`},
	// what only looks like an alias or an anchor
	{"[&a x, '*a', \"*a\", \"&a y\", *a]", `:seq[1 2 3 4 1] :str="x" :str="*a" :str="*a" :str="&a y"`}, {"- &a x\n- |\n *a\n- *a", `:seq[1 2 1] :str="x" :str="*a\n"`},
	// documents: numbers and names begin anew
	{"a\n--- b\n--- [c]", `:str="a" | :str="b" | :seq[1] :str="c"`}, {"&a b\n--- [&a c, *a]\n---\n", `:str="b" | :seq[1 1] :str="c" | :null=""`}, {"--- [&a x]\n--- [y, &a z, *a]\n", `:seq[1] :str="x" | :seq[1 2 2] :str="y" :str="z"`}, {"- a\n...\n# b\n---\n...\n- c", `:seq[1] :str="a" | :null="" | :seq[1] :str="c"`},
	// tags of plain scalars
	{"[~, null, true, False, 1, -2, 0o7, 0x1F, 1.5, .5, 1e3, .inf, -.INF, .NaN, a, Yes, 0b1]", `:seq[1 2 3 4 5 6 7 8 9 10 11 12 13 14 15 16 17] :null="~" :null="null" :bool="true" :bool="False" :int="1" :int="-2" :int="0o7" :int="0x1F" :float="1.5" :float=".5" :float="1e3" :float=".inf" :float="-.INF" :float=".NaN" :str="a" :str="Yes" :str="0b1"`}, {"1: 2", `:map{1 2} :int="1" :int="2"`}, {"1\n2", `:str="1 2"`}, {"- 1\n  # a\n- 2 # b", `:seq[1 2] :int="1" :int="2"`}, {"&a 1", `:int="1"`},
	// of others that have none
	{"'1'", `:str="1"`}, {`"1"`, `:str="1"`}, {"''", `:str=""`}, {`""`, `:str=""`}, {"|\n 1", `:str="1"`}, {"|-\n 1\n", `:str="1"`}, {">-\n null", `:str="null"`}, {">\n", `:str=""`}, {"|\n", `:str=""`}, {"[ 'true', \"~\" ]", `:seq[1 2] :str="true" :str="~"`}, {"&a '1'", `:str="1"`}, {"&a [1]", `:seq[1] :int="1"`},
	// the tag that is nothing but !
	{"!", `:str=""`}, {"! 1", `:str="1"`}, {"! ~", `:str="~"`}, {"! 'a'", `:str="a"`}, {"! |\n 1", `:str="1"`}, {"! [1]", `:seq[1] :int="1"`}, {"! {}", `:map{}`}, {"!\n- ! 1\n- 2", `:seq[1 2] :str="1" :int="2"`}, {"!\na: !", `:map{1 2} :str="a" :str=""`}, {"! &a 1", `:str="1"`}, {"[!, ! ]", `:seq[1 2] :str="" :str=""`}, {"%TAG ! x:\n--- [! 1, ! [], ! {}, !y]", `:seq[1 2 3 4] :str="1" :seq[] :map{} x:y=""`}, {"%TAG !! x:\n--- [! 1, ! [], ! {}]", `:seq[1 2 3] :str="1" :seq[] :map{}`}, {"!<!> 1", `!="1"`}, {"!<!> [1]", `![1] :int="1"`},
	// other tags, whatever they stand at
	{"!t a", `!t="a"`}, {"!t 1", `!t="1"`}, {"!t", `!t=""`}, {"!t [1]", `!t[1] :int="1"`}, {"!t {a: b}", `!t{1 2} :str="a" :str="b"`}, {"!!str 1", `:str="1"`}, {"!!int a", `:int="a"`}, {"!!null", `:null=""`}, {"!!null x", `:null="x"`}, {"!!int '1'", `:int="1"`}, {"!!seq a", `:seq="a"`}, {"!!map [a]", `:map[1] :str="a"`}, {"!!str {}", `:str{}`}, {"!!set {a}", `:set{1 2} :str="a" :null=""`}, {"!<x> a", `x="a"`}, {"!<tag:yaml.org,2002:int> a", `:int="a"`}, {"!<a%21> b", `a%21="b"`}, {"!a%21 b", `!a!="b"`}, {"!a%C3%A9 b", `!aé="b"`}, {"a: !t\n  - b", `:map{1 2} :str="a" !t[3] :str="b"`}, {"!s\n!t a: !u b", `!s{1 2} !t="a" !u="b"`}, {"- !t &a x\n- &b !u\n- *a\n- *b", `:seq[1 2 1 2] !t="x" !u=""`}, {"[!t a: !u b]", `:seq[1] :map{2 3} !t="a" !u="b"`}, {"- !t |\n 1\n", `:seq[1] !t="1\n"`},
	// handles
	{"%TAG !e! x:\n--- !e!y a", `x:y="a"`}, {"%TAG ! x:\n--- [! a, !b c, !!int d]", `:seq[1 2 3] :str="a" x:b="c" :int="d"`}, {"%TAG !! x:\n--- [!!a 1, 2, !b 3]", `:seq[1 2 3] x:a="1" :int="2" !b="3"`}, {"%TAG !e! !\n%TAG !f! tag:yaml.org,2002:\n%YAML 1.2\n--- [!e!a b, !f!int c]", `:seq[1 2] !a="b" :int="c"`}, {"%TAG !e! x:\n--- !e!a b\n...\n%TAG !e! y:\n--- !e!a b\n--- !a b", `x:a="b" | y:a="b" | !a="b"`}, {"%TAG !! x:\n--- !!a b\n--- !!a b", `x:a="b" | :a="b"`},
}

// refused are texts of streams, in one of whose documents something is wrong; with where that is, and what.
var refused = []struct {
	s    string
	at   int
	code api.Errno
}{
	// the chapter's example
	{"*a", 0, api.ErrName},
	// aliases of nothing
	{"[*a]", 1, api.ErrName}, {"- *a", 2, api.ErrName}, {"a: *b", 3, api.ErrName}, {"*a : b", 0, api.ErrName}, {"? *a", 2, api.ErrName}, {"\n\n# b\n  *a", 8, api.ErrName}, {"--- *a", 4, api.ErrName}, {"[ [a, {b: *c}]]", 10, api.ErrName}, {"[*a : b]", 1, api.ErrName}, {"[? *a]", 3, api.ErrName}, {"é: *a", 4, api.ErrName},
	// of what comes only later, or has another name
	{"[*a, &a b]", 1, api.ErrName}, {"- *a\n- &a b", 2, api.ErrName}, {"*a : &a b", 0, api.ErrName}, {"[[*a], &a b, *a]", 2, api.ErrName}, {"[&b a, *a]", 7, api.ErrName}, {"[&a x, *A]", 7, api.ErrName}, {"[&a x, *aa]", 7, api.ErrName}, {"[&aa x, *a]", 8, api.ErrName}, {"- &a x\n- *a:", 9, api.ErrName}, {"a: &b c\n*b : *d", 13, api.ErrName}, {"[&é x, *e]", 8, api.ErrName}, {"[!a x, *a]", 7, api.ErrName}, {"[a, '&a', *a]", 10, api.ErrName}, {"{a: b, *a : c}", 7, api.ErrName}, {"- |\n &a x\n- *a", 12, api.ErrName}, {"- x # &a\n- *a", 11, api.ErrName},
	// of what another document has
	{"&a b\n--- *a", 9, api.ErrName}, {"--- [&a x, *a]\n--- [y, *a]\n", 23, api.ErrName}, {"*a\n--- &a b", 0, api.ErrName}, {"a\n--- b\n--- *a", 12, api.ErrName},
	// tags that mean nothing
	{"!e!y a", 0, api.ErrTag}, {"a: !e!y b", 3, api.ErrTag}, {"- &a !e!y b", 2, api.ErrTag}, {"- !e!y &a b", 2, api.ErrTag}, {"!e!y a: b", 0, api.ErrTag}, {"!e!y", 0, api.ErrTag}, {"- - !e!y", 4, api.ErrTag}, {"!e!y\n- a", 0, api.ErrTag}, {"---\n\n!e!y\na: b", 5, api.ErrTag}, {"- !t%ff a", 2, api.ErrTag}, {"!t%C3%28 a", 0, api.ErrTag}, {"!!%80 [a]", 0, api.ErrTag}, {"%TAG !f! x:\n--- !e!x a", 16, api.ErrTag}, {"%TAG !E! x:\n--- !e!x a", 16, api.ErrTag}, {"%TAG !e! x:\n--- !e!a%ff b", 16, api.ErrTag}, {"[a, !e!x {}]", 4, api.ErrTag}, {"{!e!x : a}", 1, api.ErrTag}, {"é: !e!a b", 4, api.ErrTag},
	// those that another document has
	{"%TAG !e! x:\n--- !e!a b\n--- !e!a c", 27, api.ErrTag}, {"--- !e!a b\n...\n%TAG !e! x:\n--- !e!a c", 4, api.ErrTag}, {"a\n...\n%TAG !e! x:\n--- b\n--- !e!a", 28, api.ErrTag},
	// the first of several
	{"[*b, !e!x c]", 1, api.ErrName}, {"[!e!x c, *b]", 1, api.ErrTag}, {"[*a, *b]", 1, api.ErrName}, {"[!e!x c, !f!x d]", 1, api.ErrTag}, {"&a !e!x [*b]", 0, api.ErrTag}, {"!e!x {*b : c}", 0, api.ErrTag}, {"- &a b\n- !t [*c]", 13, api.ErrName}, {"- &a b\n- !t [!u [*c], !e!x d]", 17, api.ErrName}, {"a: [*b]\n*c : d", 4, api.ErrName}, {"!e!a b: *c", 0, api.ErrTag}, {"*c : !e!a b", 0, api.ErrName}, {"[a, [b, !e!x c], *d]", 8, api.ErrTag}, {"*a\n--- *b\n--- !e!x c", 0, api.ErrName}, {"a\n--- !e!x b\n--- *c", 6, api.ErrTag}, {"a\n--- *b\n--- !e!x c", 6, api.ErrName}, {"- [a, *b]\n- [!e!x c]\n- *d", 6, api.ErrName},
}

// parsed returns the stream that s is.
func parsed(t *testing.T, s string) api.Stream {
	t.Helper()
	st, at, e := stre.Parse(s)
	if e != api.OK {
		t.Fatalf("Parse(%q) = %d, %d", s, at, e)
	}
	return st
}

// equal reports whether two graphs are, with all that is in them.
func equal(a, b []api.Vertex) bool {
	return slices.EqualFunc(a, b, func(v, w api.Vertex) bool {
		return v.Kind == w.Kind && v.Tag == w.Tag && v.Text == w.Text && slices.Equal(v.Kids, w.Kids)
	})
}

// checkLoad holds Load of d against a graph, or against an error with its place.
func checkLoad(t *testing.T, name string, d api.Doc, want []api.Vertex, wantAt int, wantE api.Errno) {
	t.Helper()
	if got, at, e := grap.Load(d); !equal(got, want) || at != wantAt || e != wantE {
		t.Fatalf("Load of %.1000s = %.1000s, %d, %d, want %.1000s, %d, %d", name, show(got), at, e, show(want), wantAt, wantE)
	}
}

// 20.1, 20.2: the graphs of documents that were read.
func TestGraphs(t *testing.T) {
	for _, c := range graphs {
		st := parsed(t, c.s)
		all, at, e := grap.All(st)
		if showAll(all) != c.want || len(all) != len(st.Docs) || at != 0 || e != api.OK {
			t.Errorf("All of %q = %s, %d, %d, want %s", c.s, showAll(all), at, e, c.want)
			continue
		}
		for i, d := range st.Docs {
			checkLoad(t, strconv.Quote(c.s), d, all[i], 0, api.OK)
		}
		sameAsWords(t, st)
	}
}

// 20.1, 20.2: documents with something wrong; no graph is left, not even of the documents ahead.
func TestRefused(t *testing.T) {
	for _, c := range refused {
		st := parsed(t, c.s)
		if all, at, e := grap.All(st); len(all) != 0 || at != c.at || e != c.code {
			t.Errorf("All of %q = %s, %d, %d, want %d, %d", c.s, showAll(all), at, e, c.at, c.code)
		}
		for i, d := range st.Docs {
			graph, at, e := grap.Load(d)
			if e == api.OK {
				continue
			}
			if len(graph) != 0 || at != c.at || e != c.code {
				t.Errorf("Load of document %d of %q = %s, %d, %d, want %d, %d", i, c.s, show(graph), at, e, c.at, c.code)
			}
			break
		}
		sameAsWords(t, st)
	}
}

func scalar(s string) api.Node { return api.Node{Kind: api.KScalar, Style: api.SPlain, Text: s} }

func alias(s string, at int) api.Node { return api.Node{Kind: api.KAlias, Text: s, At: at} }

func sequence(l ...api.Node) api.Node { return api.Node{Kind: api.KSeq, Style: api.SFlow, Kids: l} }

func mapping(l ...api.Node) api.Node { return api.Node{Kind: api.KMap, Style: api.SFlow, Kids: l} }

func anchor(n api.Node, s string) api.Node {
	n.Anchor = s
	return n
}

func tag(n api.Node, s string) api.Node {
	n.Tag = s
	return n
}

func style(n api.Node, k int) api.Node {
	n.Style = k
	return n
}

// moved returns a graph with all numbers greater by so many.
func moved(graph []api.Vertex, by int) (all []api.Vertex) {
	for _, v := range graph {
		v.Kids = slices.Clone(v.Kids)
		for i := range v.Kids {
			v.Kids[i] += by
		}
		all = append(all, v)
	}
	return all
}

// around are nodes with one within, once or twice; how their graphs begin; and behind which of their vertexes that one stands.
var around = []struct {
	with  func(n api.Node) api.Node
	graph func(first, second int) []api.Vertex // by the numbers of the one within
	ahead int
	twice bool
}{
	{func(n api.Node) api.Node { return sequence(n) }, func(a, _ int) []api.Vertex { return []api.Vertex{{Kind: api.KSeq, Tag: long + "seq", Kids: []int{a}}} }, 1, false},
	{func(n api.Node) api.Node { return mapping(scalar("k"), n) }, func(a, _ int) []api.Vertex {
		return []api.Vertex{{Kind: api.KMap, Tag: long + "map", Kids: []int{1, a}}, {Kind: api.KScalar, Tag: long + "str", Text: "k"}}
	}, 2, false},
	{func(n api.Node) api.Node { return sequence(anchor(scalar("1"), "other"), sequence(n)) }, func(a, _ int) []api.Vertex {
		return []api.Vertex{{Kind: api.KSeq, Tag: long + "seq", Kids: []int{1, 2}}, {Kind: api.KScalar, Tag: long + "int", Text: "1"}, {Kind: api.KSeq, Tag: long + "seq", Kids: []int{a}}}
	}, 3, false},
	{func(n api.Node) api.Node { return sequence(n, n) }, func(a, b int) []api.Vertex {
		return []api.Vertex{{Kind: api.KSeq, Tag: long + "seq", Kids: []int{a, b}}}
	}, 1, true},
	{func(n api.Node) api.Node { return tag(mapping(n, n), "!") }, func(a, b int) []api.Vertex {
		return []api.Vertex{{Kind: api.KMap, Tag: long + "map", Kids: []int{a, b}}}
	}, 1, true},
}

// 20.1: a node within others has the graph that it has alone, with greater numbers; also twice, since the last node of a name is the one of the same copy. What is wrong with it is wrong there, too.
func TestWithin(t *testing.T) {
	var all []string
	for _, c := range graphs {
		all = append(all, c.s)
	}
	for _, c := range refused {
		all = append(all, c.s)
	}
	for _, s := range all {
		for _, d := range parsed(t, s).Docs {
			graph, at, e := grap.Load(d)
			for _, c := range around {
				in := d
				in.Root = c.with(d.Root)
				if e != api.OK {
					checkLoad(t, fmt.Sprintf("%q within %+v", s, in.Root), in, nil, at, e)
					continue
				}
				want := append(c.graph(c.ahead, c.ahead+len(graph)), moved(graph, c.ahead)...)
				if c.twice {
					want = append(want, moved(graph, c.ahead+len(graph))...)
				}
				checkLoad(t, fmt.Sprintf("%q within %+v", s, in.Root), in, want, 0, api.OK)
			}
		}
	}
}

// 20.1: of two nodes with something wrong, the first one is told; and what is wrong with a node ahead of what is wrong with its Kids.
func TestFirst(t *testing.T) {
	wrong := []struct {
		n api.Node
		e api.Errno
	}{{alias("a", 0), api.ErrName}, {tag(scalar("a"), "!e!a"), api.ErrTag}, {tag(scalar(""), "a"), api.ErrTag}, {tag(sequence(), "!<>"), api.ErrTag}, {tag(sequence(alias("b", 9)), "!a!"), api.ErrTag}, {tag(mapping(tag(scalar(""), "!!%fe"), alias("b", 9)), "!%c0%80"), api.ErrTag}}
	for i, first := range wrong {
		for j, second := range wrong {
			first.n.At, second.n.At = 10+i, 20+j
			for _, root := range []api.Node{sequence(first.n, second.n), mapping(first.n, second.n), sequence(sequence(scalar("x"), first.n), second.n), mapping(scalar("x"), first.n, second.n, anchor(scalar("y"), "a"))} {
				checkLoad(t, fmt.Sprintf("%+v", root), api.Doc{Root: root}, nil, 10+i, first.e)
				st := api.Stream{Docs: []api.Doc{{Root: scalar("x")}, {Root: root}, {Root: second.n}}}
				if all, at, e := grap.All(st); len(all) != 0 || at != 10+i || e != first.e {
					t.Fatalf("All of %+v = %s, %d, %d", st, showAll(all), at, e)
				}
			}
		}
	}
}

// 20.1: the tag of a node hangs on its Kind, its Tag and, if it is a KScalar without a Tag, on its Style and its Text; on nothing else of it.
func TestTags(t *testing.T) {
	dirs := []string{"%YAML 1.2", "%TAG !e! x:", "%a", "%TAG !x! tag:yaml.org,2002:"}
	words := map[string]string{"": "null", "null": "null", "a": "str", "1": "int", "1.": "float", "true": "bool", "!": "str", "a b": "str", "\n": "str", " 1": "str"}
	tags := map[string]string{"!a": "!a", "!!a": long + "a", "!!str": long + "str", "!!null": long + "null", "!e!a%21": "x:a!", "!x!int": long + "int", "!<!>": "!", "!<a>": "a", "!<!!str>": "!!str", "!%21": "!!", "!!%C3%A9": long + "é"}
	bad := []string{"!!", "a", " ", "! ", " !", "!f!a", "!E!a", "!<", "!<>", "!%", "!%ff", "!a!", "str", long + "str"}
	for _, kind := range []int{api.KScalar, api.KSeq, api.KMap} {
		for look := api.SPlain; look <= api.SFlow; look++ {
			for text, word := range words {
				n := api.Node{Kind: kind, Style: look, At: 7, Blank: 2, Text: text, HasTrail: true, Trail: "!t", Lead: []api.Comment{{Text: "!t"}}}
				v := api.Vertex{Kind: kind, Tag: own(kind)}
				if kind == api.KScalar {
					v.Text = text
				}
				if kind == api.KScalar && look == api.SPlain {
					v.Tag = long + word
				}
				hold := func(name string) {
					checkLoad(t, fmt.Sprintf("%s: %+v", name, n), api.Doc{Dirs: dirs, Root: n}, []api.Vertex{v}, 0, api.OK)
				}
				hold("no tag")
				n.Anchor = "b"
				hold("no tag")
				n.Tag, v.Tag = "!", own(kind)
				hold("the tag !")
				for n.Tag, v.Tag = range tags {
					hold("a tag")
				}
				for _, n.Tag = range bad {
					checkLoad(t, fmt.Sprintf("%+v", n), api.Doc{Dirs: dirs, Root: n}, nil, 7, api.ErrTag)
				}
			}
		}
	}
}

// 20.2: All of streams of the same document many times, with one among them that is wrong or none.
func TestAll(t *testing.T) {
	good, bad := api.Doc{Root: anchor(sequence(alias("a", 3), scalar("1")), "a")}, api.Doc{Root: alias("a", 5)}
	graph := []api.Vertex{{Kind: api.KSeq, Tag: long + "seq", Kids: []int{0, 1}}, {Kind: api.KScalar, Tag: long + "int", Text: "1"}}
	for size := range 6 {
		docs := slices.Repeat([]api.Doc{good}, size)
		all, at, e := grap.All(api.Stream{Docs: docs, Tail: []api.Comment{{Text: "*a"}}})
		if at != 0 || e != api.OK || !slices.EqualFunc(all, slices.Repeat([][]api.Vertex{graph}, size), equal) {
			t.Errorf("All of %d documents = %s, %d, %d", size, showAll(all), at, e)
		}
		for i := range size {
			with := slices.Clone(docs)
			with[i] = bad
			if all, at, e := grap.All(api.Stream{Docs: with}); len(all) != 0 || at != 5 || e != api.ErrName {
				t.Errorf("All with document %d of nothing = %s, %d, %d", i, showAll(all), at, e)
			}
		}
	}
}

// different are graphs of which no two are the same.
func different() (all [][]api.Vertex) {
	vertexes := []api.Vertex{{}, {Kind: 1}, {Kind: 2}, {Kind: -1}, {Tag: "a"}, {Text: "a"}, {Tag: "A"}, {Text: "A"}, {Tag: "a", Text: "a"}, {Kids: []int{0}}, {Kids: []int{1}}, {Kids: []int{-1}}, {Kids: []int{0, 0}}, {Kids: []int{0, 1}}, {Kids: []int{1, 0}}, {Kids: []int{0, 0, 0}}, {Kind: 1, Tag: "a", Text: "b", Kids: []int{2, 3}}, {Kind: 1, Tag: "b", Text: "a", Kids: []int{2, 3}}, {Kind: 1, Tag: "ab", Kids: []int{2, 3}}, {Kind: 1, Text: "ab", Kids: []int{2, 3}}}
	all = append(all, nil)
	for i, v := range vertexes {
		all = append(all, []api.Vertex{v}, []api.Vertex{v, v, v})
		for _, w := range vertexes[:i+1] {
			all = append(all, []api.Vertex{v, w})
			if i > 0 && !reflect.DeepEqual(v, w) {
				all = append(all, []api.Vertex{w, v}, []api.Vertex{v, w, {}}, []api.Vertex{w, v, {Kind: 9}})
			}
		}
	}
	return all
}

// copied returns a graph with lists of its own, which have something in their spare capacity; empty ones instead of nil.
func copied(graph []api.Vertex) []api.Vertex {
	all := []api.Vertex{}
	for _, v := range graph {
		v.Kids = append(append([]int{}, v.Kids...), 99)[:len(v.Kids)]
		all = append(all, v)
	}
	return append(all, api.Vertex{Kind: 99})[:len(all)]
}

// 20.2: Same of every two of these, and of each and its copy.
func TestSame(t *testing.T) {
	all := different()
	for i, a := range all {
		for j, b := range all {
			if got := grap.Same(a, copied(b)); got != (i == j) {
				t.Errorf("Same(%s, %s) = %v", show(a), show(b), got)
			}
		}
		if !grap.Same(a, a) || !grap.Same(copied(a), a) || len(a) > 0 && (grap.Same(a, a[1:]) || grap.Same(a[:len(a)-1], a)) {
			t.Errorf("Same of %s and of a part of it is wrong", show(a))
		}
	}
}

// 20.1, 20.2, 20.4: as many levels as may be, and many nodes, names, aliases, documents and directives, and long texts.
func TestLong(t *testing.T) {
	const n = 1 << 16
	deep, want := scalar("a"), make([]api.Vertex, n)
	for i := range n - 1 {
		number := n - 2 - i
		deep = anchor(api.Node{Kind: api.KSeq, Kids: []api.Node{deep, alias(strconv.Itoa(number), 1), alias(strconv.Itoa(number/2), 1)}}, strconv.Itoa(number))
		want[number] = api.Vertex{Kind: api.KSeq, Tag: long + "seq", Kids: []int{number + 1, number, number / 2}}
	}
	want[n-1] = api.Vertex{Kind: api.KScalar, Tag: long + "str", Text: "a"}
	checkLoad(t, "deep nodes", api.Doc{Root: deep}, want, 0, api.OK)
	deep = alias("a", 5)
	for range n - 1 {
		deep = mapping(scalar(""), deep)
	}
	checkLoad(t, "a deep alias", api.Doc{Root: deep}, nil, 5, api.ErrName)
	wide := anchor(sequence(), "root")
	want = []api.Vertex{{Kind: api.KSeq, Tag: long + "seq"}}
	for i := range n {
		wide.Kids = append(wide.Kids, anchor(scalar(strconv.Itoa(i)), strconv.Itoa(i)), alias(strconv.Itoa(i/2), 1), alias("root", 1))
		want = append(want, api.Vertex{Kind: api.KScalar, Tag: long + "int", Text: strconv.Itoa(i)})
		want[0].Kids = append(want[0].Kids, i+1, i/2+1, 0)
	}
	checkLoad(t, "many items", api.Doc{Root: wide}, want, 0, api.OK)
	wide.Kids = append(wide.Kids, alias("r", 8), alias("s", 9))
	checkLoad(t, "many items", api.Doc{Root: wide}, nil, 8, api.ErrName)
	all, at, e := grap.All(api.Stream{Docs: slices.Repeat([]api.Doc{{Root: scalar("1")}}, n)})
	one := [][]api.Vertex{{{Kind: api.KScalar, Tag: long + "int", Text: "1"}}}
	if at != 0 || e != api.OK || !slices.EqualFunc(all, slices.Repeat(one, n), equal) {
		t.Errorf("All of many documents = %d graphs, %d, %d", len(all), at, e)
	}
	dirs := append(slices.Repeat([]string{"%TAG !f! x:"}, n), "%TAG !e! y:")
	text := strings.Repeat("a\n", 10*n)
	checkLoad(t, "many directives and long texts", api.Doc{Dirs: dirs, Root: sequence(tag(scalar(text), "!e!a"), anchor(scalar(text), text), alias(text, 1), tag(scalar(""), "!"+strings.Repeat("b", n)))}, []api.Vertex{{Kind: api.KSeq, Tag: long + "seq", Kids: []int{1, 2, 2, 3}}, {Kind: api.KScalar, Tag: "y:a", Text: text}, {Kind: api.KScalar, Tag: long + "str", Text: text}, {Kind: api.KScalar, Tag: "!" + strings.Repeat("b", n)}}, 0, api.OK)
}

// 20.4: documents that are never read have a graph whose numbers are its own, or an error, with nothing beside it.
func TestOdd(t *testing.T) {
	for seed := range uint64(20000) {
		d := maker{rand: random(seed), odd: true}.doc(4)
		graph, at, e := grap.Load(d)
		if e != api.OK && len(graph) != 0 || e == api.OK && (len(graph) == 0 || at != 0) {
			t.Fatalf("Load(%+v) = %s, %d, %d", d, show(graph), at, e)
		}
		for _, v := range graph {
			for _, kid := range v.Kids {
				if kid < 0 || kid >= len(graph) {
					t.Fatalf("Load(%+v) = %s", d, show(graph))
				}
			}
		}
		again, atAgain, eAgain := grap.Load(d)
		if !equal(graph, again) || at != atAgain || e != eAgain || !grap.Same(graph, again) {
			t.Fatalf("Load(%+v) = %s, then %s", d, show(graph), show(again))
		}
	}
	for _, d := range []api.Doc{{}, {Root: api.Node{Kind: api.KAlias}}, {Dirs: []string{"", " ", "%TAG", "%TAG !"}, Root: tag(scalar(""), "!!")}} {
		grap.Load(d)
		grap.All(api.Stream{Docs: []api.Doc{d, d}})
	}
}

// whole returns a copy of a node, with what stands in the spare capacity of its lists at their ends.
func whole(n api.Node) api.Node {
	n.Lead, n.Foot = slices.Clone(n.Lead[:cap(n.Lead)]), slices.Clone(n.Foot[:cap(n.Foot)])
	n.Kids = slices.Clone(n.Kids[:cap(n.Kids)])
	for i, kid := range n.Kids {
		n.Kids[i] = whole(kid)
	}
	return n
}

// wholeStream does the same of a stream.
func wholeStream(st api.Stream) api.Stream {
	st.Docs, st.Tail = slices.Clone(st.Docs[:cap(st.Docs)]), slices.Clone(st.Tail[:cap(st.Tail)])
	for i, d := range st.Docs {
		d.Head, d.Dirs, d.Foot = slices.Clone(d.Head[:cap(d.Head)]), slices.Clone(d.Dirs[:cap(d.Dirs)]), slices.Clone(d.Foot[:cap(d.Foot)])
		d.Root = whole(d.Root)
		st.Docs[i] = d
	}
	return st
}

// spoil writes into all memory of a list of graphs, with its spare capacity, and tells whether some of it is that of two lists.
func spoil(all [][]api.Vertex) (shared bool) {
	number := 0
	var kids [][]int
	for _, graph := range all[:cap(all)] {
		for _, v := range graph[:cap(graph)] {
			kids = append(kids, v.Kids[:cap(v.Kids)])
			for i := range kids[len(kids)-1] {
				number++
				kids[len(kids)-1][i] = number
			}
		}
		for i := range graph[:cap(graph)] {
			shared = shared || graph[:cap(graph)][i].Kind == 77
			graph[:cap(graph)][i] = api.Vertex{Kind: 77}
		}
	}
	number = 0
	for _, l := range kids {
		for _, k := range l {
			number++
			shared = shared || k != number
		}
	}
	clear(all[:cap(all)])
	return shared
}

// 20.1, 20.2: no argument is changed, nor its spare capacity, nothing of it is kept, and each list of an answer has memory of its own.
func TestOwnMemory(t *testing.T) {
	several := 0
	for seed := range uint64(3000) {
		m := maker{rand: random(seed)}
		st := api.Stream{Docs: append([]api.Doc{m.doc(3), m.doc(3), m.doc(3)}, m.doc(1))[:1+seed%3]}
		before := wholeStream(st)
		all, at, e := grap.All(st)
		other, _, _ := grap.All(st)
		one, _, _ := grap.Load(st.Docs[0])
		if len(all) > 1 {
			several++
		}
		for i := range all {
			if !grap.Same(all[i], other[i]) {
				t.Fatalf("of stream %d: two answers are not the same", seed)
			}
		}
		if !reflect.DeepEqual(wholeStream(st), before) {
			t.Fatalf("stream %d is another one afterwards", seed)
		}
		kept := copied(one)
		if spoil(other) || !reflect.DeepEqual(wholeStream(st), before) || !equal(one, kept) {
			t.Fatalf("of stream %d: an answer shares memory", seed)
		}
		again, atAgain, eAgain := grap.All(st)
		if !slices.EqualFunc(all, again, equal) || at != atAgain || e != eAgain {
			t.Fatalf("of stream %d: two answers are not the same", seed)
		}
		a, b := copied(one), copied(kept)
		a[:cap(a)][len(a)], b[:cap(b)][len(b)] = api.Vertex{Kind: 5}, api.Vertex{Kind: 6}
		if !grap.Same(a, b) || a[:cap(a)][len(a)].Kind != 5 || b[:cap(b)][len(b)].Kind != 6 || !equal(a, one) || !equal(b, one) {
			t.Fatalf("Same has changed graph %d", seed)
		}
	}
	if several < 500 {
		t.Errorf("only %d streams with several graphs", several)
	}
}

// 20.1: the texts of an answer are new memory, too.
func TestOwnTexts(t *testing.T) {
	for _, s := range []string{"a", "1", "!", strings.Repeat("a", 100)} {
		s = strings.Clone(s)
		verbatim, handle, dir := strings.Clone("!<"+s+">"), strings.Clone("!e!"+strings.Repeat("b", 50)), strings.Clone("%TAG !e! "+s)
		graph, _, e := grap.Load(api.Doc{Dirs: []string{dir}, Root: sequence(scalar(s), style(anchor(scalar(s), s), api.SSingle), alias(s, 1), tag(scalar(s), verbatim), tag(scalar(s), handle), tag(scalar(s), strings.Clone("!")))})
		if e != api.OK || len(graph) != 6 {
			t.Fatalf("Load of %q = %s, %d", s, show(graph), e)
		}
		for _, v := range graph {
			for _, told := range []string{v.Tag, v.Text} {
				for _, given := range []string{s, verbatim, handle, dir} {
					from, at := uintptr(unsafe.Pointer(unsafe.StringData(given))), uintptr(unsafe.Pointer(unsafe.StringData(told)))
					if from < at+uintptr(len(told)) && at < from+uintptr(len(given)) {
						t.Errorf("the memory of %q is that of %q", told, given)
					}
				}
			}
		}
	}
}
