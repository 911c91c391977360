package leaf_test

import (
	"fmt"
	"math/rand/v2"
	"slices"
	"strings"
	"testing"

	"bosket/api"
)

// The chapter's words as a list in which each thing is replaced by what it consists of, until there are strings alone.

// parts returns what a thing consists of.
func parts(thing any) (all []any) {
	switch x := thing.(type) {
	case api.Stream:
		for _, d := range x.Docs {
			all = append(all, d)
		}
		return append(all, x.Tail)
	case api.Doc:
		return []any{x.Head, x.Root, x.Foot}
	case []api.Comment:
		for _, c := range x {
			all = append(all, "#"+c.Text)
		}
		return all
	case api.Node:
		all = append(all, x.Lead)
		if x.Kind == api.KScalar && len(x.Text) > 0 {
			all = append(all, "="+x.Text)
		}
		if x.Kind == api.KAlias {
			all = append(all, "*"+x.Text)
		}
		for _, kid := range x.Kids {
			all = append(all, kid)
		}
		all = append(all, x.Foot)
		if x.HasTrail {
			all = append(all, "#"+x.Trail)
		}
	}
	return all
}

// replaced returns the strings that a thing is replaced by, and the nodes in it.
func replaced(thing any) (row []string, nodes []api.Node) {
	for rest := []any{thing}; len(rest) > 0; {
		first := rest[0]
		rest = rest[1:]
		switch x := first.(type) {
		case string:
			row = append(row, x)
			continue
		case api.Node:
			nodes = append(nodes, x)
		}
		rest = append(parts(first), rest...)
	}
	return row, nodes
}

// wantInner works Inner out from the chapter's words: a key that has lost its Lead has a comment all the same.
func wantInner(st api.Stream) bool {
	_, nodes := replaced(st)
	for _, n := range nodes {
		for i, kid := range n.Kids {
			kid.Lead = nil
			if row, _ := replaced(kid); n.Kind == api.KMap && i%2 == 0 && len(filter(row)) > 0 {
				return true
			}
		}
	}
	return false
}

// sameAsWords holds the calls against the chapter's words, and tells whether there is a comment within a key.
func sameAsWords(t *testing.T, st api.Stream) bool {
	t.Helper()
	row, _ := replaced(st)
	inner := wantInner(st)
	if s := wrong(st, row, inner); s != "" {
		t.Fatalf("of %.3000s: %.3000s", fmt.Sprintf("%+v", st), s)
	}
	return inner
}

// shapes hands over all nodes of so many nodes in all, each of them in turn one of these, with Kids.
func shapes(size int, of []api.Node, use func(api.Node)) {
	lists(size-1, of, func(kids []api.Node) {
		for _, n := range of {
			n.Kids = slices.Clone(kids)
			use(n)
		}
	})
}

// lists hands over all lists of nodes that have so many nodes in all.
func lists(size int, of []api.Node, use func([]api.Node)) {
	if size == 0 {
		use(nil)
	}
	for first := 1; first <= size; first++ {
		shapes(first, of, func(n api.Node) {
			lists(size-first, of, func(rest []api.Node) {
				use(append([]api.Node{n}, rest...))
			})
		})
	}
}

// noted hands over n with a comment at each of the places where it may have one, one after the other.
func noted(n api.Node, use func(api.Node)) {
	use(lead(n, "l"))
	use(foot(n, "f"))
	use(trail(n, "t"))
	for i, kid := range n.Kids {
		noted(kid, func(other api.Node) {
			n.Kids = slices.Clone(n.Kids)
			n.Kids[i] = other
			use(n)
		})
	}
}

// 19.1, 19.2: every node of up to four nodes of seven kinds, and of up to six collections, without comments and with one anywhere.
func TestEveryNode(t *testing.T) {
	t.Parallel()
	kinds := []api.Node{scalar("a"), scalar(""), alias("a"), alias(""), sequence(), mapping(), {Text: "a"}}
	count, within := 0, 0
	hold := func(n api.Node) {
		count++
		if sameAsWords(t, api.Stream{Docs: []api.Doc{{Root: n}}}) {
			within++
		}
	}
	for size := 1; size <= 6; size++ {
		of := kinds
		if size > 4 {
			of = []api.Node{sequence(), mapping()}
		}
		shapes(size, of, func(n api.Node) {
			hold(n)
			noted(n, hold)
		})
	}
	if count < 200000 || within < 30000 {
		t.Errorf("only %d nodes, %d with a comment within a key", count, within)
	}
}

// maker makes streams, with something in the spare capacity of their lists.
type maker struct {
	rand *rand.Rand
	rare int // one of how many places has a comment
}

var texts = []string{"", "a", "b c", "#", "#a", "=", "*a", "\n", " ", "é", "\x00", "\xff", "---"}

func (m maker) chance(of int) bool { return m.rand.IntN(of) == 0 }

func (m maker) text() string { return texts[m.rand.IntN(len(texts))] }

func (m maker) comments() []api.Comment {
	if !m.chance(m.rare) {
		return nil
	}
	var all []api.Comment
	for range 1 + m.rand.IntN(2) {
		all = append(all, api.Comment{Text: m.text(), Blank: m.rand.IntN(3)})
	}
	return append(all, api.Comment{Text: "spare"})[:len(all)]
}

func (m maker) node(deep int) api.Node {
	n := api.Node{Kind: m.rand.IntN(6), Style: m.rand.IntN(8), At: m.rand.IntN(9) - 1, Blank: m.rand.IntN(3), Anchor: m.text(), Tag: m.text(), Text: m.text(), Lead: m.comments(), Foot: m.comments(), HasTrail: m.chance(m.rare), Trail: m.text()}
	if n.Kind == api.KScalar || n.Kind == api.KAlias || deep == 0 {
		return n
	}
	var kids []api.Node
	for range m.rand.IntN(5) {
		kids = append(kids, m.node(deep-1))
	}
	n.Kids = append(kids, trail(scalar("spare"), "spare"))[:len(kids)]
	return n
}

// made returns a stream that hangs on seed, with so many levels of Kids.
func made(seed uint64, deep int) (st api.Stream) {
	m := maker{rand: rand.New(rand.NewPCG(seed, 19)), rare: 2 + int(seed%3)*9}
	var docs []api.Doc
	for range m.rand.IntN(4) {
		docs = append(docs, api.Doc{Head: m.comments(), Dirs: []string{"%" + m.text()}[:m.rand.IntN(2)], Mark: m.chance(2), Root: m.node(deep), Foot: m.comments()})
	}
	st.Docs = append(docs, api.Doc{Head: comments("spare"), Root: scalar("spare")})[:len(docs)]
	st.Tail = m.comments()
	return st
}

// bare returns a node in which nothing is left but what is told, and what tells keys.
func bare(n api.Node) api.Node {
	n.Style, n.At, n.Blank, n.Anchor, n.Tag = 0, 0, 0, "", ""
	if !n.HasTrail {
		n.Trail = ""
	}
	n.Lead, n.Foot = bareComments(n.Lead), bareComments(n.Foot)
	var kids []api.Node
	for _, kid := range n.Kids {
		kids = append(kids, bare(kid))
	}
	n.Kids = kids
	return n
}

func bareComments(l []api.Comment) (all []api.Comment) {
	for _, c := range l {
		all = append(all, api.Comment{Text: c.Text})
	}
	return all
}

// 19.1, 19.2, 19.4: streams of all kinds; and what else is in them tells nothing.
func TestMade(t *testing.T) {
	t.Parallel()
	within, without, told := 0, 0, 0
	for seed := range uint64(20000) {
		st := made(seed, 4)
		row, _ := replaced(st)
		told += len(row)
		switch {
		case sameAsWords(t, st):
			within++
		case len(filter(row)) > 0:
			without++
		}
		inner := wantInner(st)
		for i := range st.Docs {
			d := &st.Docs[i]
			*d = api.Doc{Head: bareComments(d.Head), Root: bare(d.Root), Foot: bareComments(d.Foot)}
		}
		st.Tail = bareComments(st.Tail)
		check(t, "a bare stream", st, row, inner)
	}
	if within < 4000 || without < 4000 || told < 200000 {
		t.Errorf("only %d streams with comments within keys, %d with others, %d texts and comments", within, without, told)
	}
}

// 19.1: documents put together tell what they tell alone, one behind the other.
func TestTogether(t *testing.T) {
	for seed := range uint64(1000) {
		first, second := made(seed, 3), made(seed+1000, 3)
		a, _ := replaced(api.Stream{Docs: first.Docs})
		b, _ := replaced(second)
		both := api.Stream{Docs: slices.Concat(first.Docs, second.Docs), Tail: second.Tail}
		check(t, "two streams", both, slices.Concat(a, b), wantInner(first) || wantInner(second))
		if strings.Contains(strings.Join(slices.Concat(a, b), ""), "spare") {
			t.Fatal("what is spare is told")
		}
	}
}
