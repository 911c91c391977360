package grap_test

import (
	"fmt"
	"math/rand/v2"
	"slices"
	"strconv"
	"testing"

	"bosket/api"
	"bosket/core"
	"bosket/grap"
	"bosket/hand"
	"bosket/stre"
)

// The chapter's words as a list of the nodes in the order in which they begin, of which everything else is looked up.

// begun is a node, and which one in the list it is a Kid of (-1: of none).
type begun struct {
	node api.Node
	of   int
}

// order returns that list.
func order(root api.Node) (list []begun) {
	for rest := []begun{{root, -1}}; len(rest) > 0; {
		first := rest[0]
		rest = rest[1:]
		var kids []begun
		for _, kid := range first.node.Kids {
			kids = append(kids, begun{kid, len(list)})
		}
		list, rest = append(list, first), append(kids, rest...)
	}
	return list
}

// number returns how many nodes ahead of the i-th have numbers.
func number(list []begun, i int) (n int) {
	for _, b := range list[:i] {
		if b.node.Kind != api.KAlias {
			n++
		}
	}
	return n
}

// stands returns the node for which the i-th stands, or -1.
func stands(list []begun, i int) int {
	if list[i].node.Kind != api.KAlias {
		return i
	}
	for j, b := range slices.Backward(list[:i]) {
		if b.node.Kind != api.KAlias && b.node.Anchor == list[i].node.Text {
			return j
		}
	}
	return -1
}

// own returns the tag of the nodes of a kind that have no Tag and are no plain scalars.
func own(kind int) string {
	return long + []string{api.KScalar: "str", api.KSeq: "seq", api.KMap: "map"}[kind]
}

// wantTag works the Tag of a vertex out.
func wantTag(dirs []string, n api.Node) (string, api.Errno) {
	if n.Tag == "!" {
		return own(n.Kind), api.OK
	}
	if n.Tag != "" {
		return hand.Full(dirs, n.Tag)
	}
	if n.Kind == api.KScalar && n.Style == api.SPlain {
		return core.Tag(n.Text), api.OK
	}
	return own(n.Kind), api.OK
}

// wantLoad works Load out.
func wantLoad(d api.Doc) (graph []api.Vertex, at int, e api.Errno) {
	list := order(d.Root)
	for i, b := range list {
		if stands(list, i) < 0 {
			return nil, b.node.At, api.ErrName
		}
		if b.node.Kind == api.KAlias {
			continue
		}
		full, e := wantTag(d.Dirs, b.node)
		if e != api.OK {
			return nil, b.node.At, e
		}
		v := api.Vertex{Kind: b.node.Kind, Tag: full}
		if v.Kind == api.KScalar {
			v.Text = b.node.Text
		}
		for j, kid := range list {
			if kid.of == i {
				v.Kids = append(v.Kids, number(list, max(stands(list, j), 0)))
			}
		}
		graph = append(graph, v)
	}
	return graph, 0, api.OK
}

// sameAsWords holds Load and All against the chapter's words, and tells what is wrong, if anything is.
func sameAsWords(t *testing.T, st api.Stream) api.Errno {
	t.Helper()
	var wantAll [][]api.Vertex
	wantAt, wantE := 0, api.OK
	for _, d := range st.Docs {
		graph, at, e := wantLoad(d)
		checkLoad(t, fmt.Sprintf("%+v", d), d, graph, at, e)
		if e != api.OK && wantE == api.OK {
			wantAt, wantE = at, e
		}
		wantAll = append(wantAll, graph)
	}
	if wantE != api.OK {
		wantAll = nil
	}
	if all, at, e := grap.All(st); !slices.EqualFunc(all, wantAll, equal) || at != wantAt || e != wantE {
		t.Fatalf("All of %.1000s = %.1000s, %d, %d, want %.1000s, %d, %d", fmt.Sprintf("%+v", st), showAll(all), at, e, showAll(wantAll), wantAt, wantE)
	}
	return wantE
}

// shapes hands over all nodes of so many nodes in all, each of them in turn one of these, those that are collections with Kids.
func shapes(size int, of []api.Node, use func(api.Node)) {
	lists(size-1, of, func(kids []api.Node) {
		for _, n := range of {
			if len(kids) == 0 || n.Kind == api.KSeq || n.Kind == api.KMap {
				n.Kids = slices.Clone(kids)
				use(n)
			}
		}
	})
}

// lists hands over all lists of nodes that have so many nodes in all.
func lists(size int, of []api.Node, use func([]api.Node)) {
	if size == 0 {
		use(nil)
	}
	for first := 1; first <= size; first++ {
		shapes(first, of, func(n api.Node) {
			lists(size-first, of, func(rest []api.Node) {
				use(append([]api.Node{n}, rest...))
			})
		})
	}
}

// placed returns a node in which each node has a place of its own, from next on; and the place after the last of them.
func placed(n api.Node, next int) (api.Node, int) {
	n.At = next
	next++
	n.Kids = slices.Clone(n.Kids)
	for i := range n.Kids {
		n.Kids[i], next = placed(n.Kids[i], next)
	}
	return n, next
}

// 20.1: every node of up to four nodes of eleven kinds, and of five of eight, with names, aliases and tags that are right and wrong.
func TestEveryNode(t *testing.T) {
	t.Parallel()
	of := []api.Node{scalar("1"), anchor(scalar("1"), "a"), anchor(scalar("2"), "b"), alias("a", 0), alias("b", 0), sequence(), anchor(sequence(), "a"), anchor(mapping(), "b"), tag(scalar("1"), "!"), tag(sequence(), "!!t"), tag(anchor(scalar("1"), "b"), "!e!t")}
	counts := map[api.Errno]int{}
	for size := 1; size <= 5; size++ {
		some := of
		if size == 5 {
			some = slices.Concat(of[1:8], of[10:])
		}
		shapes(size, some, func(n api.Node) {
			n, _ = placed(n, 10)
			counts[sameAsWords(t, api.Stream{Docs: []api.Doc{{Root: n}}})]++
		})
	}
	if counts[api.OK] < 5000 || counts[api.ErrName] < 5000 || counts[api.ErrTag] < 2000 {
		t.Errorf("only these: %v", counts)
	}
}

// every hands over all texts of at most so many of these parts.
func every(parts []string, most int, use func(string)) {
	use("")
	if most == 0 {
		return
	}
	for _, p := range parts {
		every(parts, most-1, func(rest string) { use(p + rest) })
	}
}

// 20.1, 20.2: the streams among all texts of up to five parts of those of which documents with names and tags are made.
func TestEveryText(t *testing.T) {
	t.Parallel()
	counts := map[api.Errno]int{}
	hold := func(s string) {
		if st, _, e := stre.Parse(s); e == api.OK {
			counts[sameAsWords(t, st)]++
		}
	}
	every([]string{"&a ", "*a ", "!!t ", "! ", "!e!t ", "1", "- ", ": ", "\n", "\n--- ", "[", "]", ","}, 4, hold)
	every([]string{"&a ", "*a ", "&b ", "*b", "x", ": ", "\n", ", "}, 6, func(s string) { hold("[&a z, " + s + "]") })
	every([]string{"&a ", "*a ", "! ", "1", "\n- ", "\n  - ", "\n--- "}, 6, hold)
	if counts[api.OK] < 10000 || counts[api.ErrName] < 10000 || counts[api.ErrTag] < 200 {
		t.Errorf("only these: %v", counts)
	}
}

// maker makes documents, with something in the spare capacity of their lists.
type maker struct {
	rand *rand.Rand
	odd  bool // whether they are such as are never read
}

func random(seed uint64) *rand.Rand { return rand.New(rand.NewPCG(seed, 20)) }

func (m maker) chance(of int) bool { return m.rand.IntN(of) == 0 }

func (m maker) one(of ...string) string { return of[m.rand.IntN(len(of))] }

// tag returns one, or none; rarely one that is wrong.
func (m maker) tag() string {
	switch m.rand.IntN(12) {
	case 0:
		return m.one("!", "!t", "!!t", "!t%21", "!<t>", "!!int", "!<!>")
	case 1:
		if m.chance(8) || m.odd && m.chance(2) {
			return m.one("!e!t", "!f!t", "!%ff", "!!", "t", " ", "\xff")
		}
	}
	return ""
}

func (m maker) comments() []api.Comment {
	if !m.chance(5) {
		return nil
	}
	return append([]api.Comment{{Text: m.one("*a", "&a", "b"), Blank: m.rand.IntN(3)}}, api.Comment{Text: "spare"})[:1]
}

// node returns one, in which aliases of a name are rare unless a node with this name is known.
func (m maker) node(deep int, known []string) (api.Node, []string) {
	n := api.Node{Kind: api.KScalar, Style: 1 + m.rand.IntN(5), At: m.rand.IntN(1000) - 1, Blank: m.rand.IntN(3), Lead: m.comments(), Foot: m.comments(), HasTrail: m.chance(9), Trail: m.one("", "*a")}
	if len(known) > 0 && m.chance(3) {
		n.Kind, n.Style, n.Text = api.KAlias, 0, m.one(known...)
		return n, known
	}
	if m.chance(300) {
		n.Kind, n.Style, n.Text = api.KAlias, 0, m.one("a", "b", "nothing")
		return n, known
	}
	if m.chance(3) {
		n.Anchor = m.one("a", "b", "c", "é")
		known = append(slices.Clone(known), n.Anchor)
	}
	n.Tag = m.tag()
	if deep == 0 || m.chance(4) {
		n.Text = m.one("", "1", "a", "1.5", "true", "~", "a b\n", "*a", "&a", "é", "\x00")
		return n, known
	}
	n.Kind, n.Style = api.KSeq+m.rand.IntN(2), api.SBlock+m.rand.IntN(2)
	var kids []api.Node
	for range m.rand.IntN(4) * (1 + n.Kind - api.KSeq) {
		var kid api.Node
		kid, known = m.node(deep-1, known)
		kids = append(kids, kid)
	}
	n.Kids = append(kids, scalar("spare"))[:len(kids)]
	return n, known
}

// spoiled returns a node with some things that are read of no text.
func (m maker) spoiled(n api.Node) api.Node {
	switch m.rand.IntN(12) {
	case 0:
		n.Kind = m.rand.IntN(8) - 1
	case 1:
		n.Style = m.rand.IntN(10) - 1
	case 2:
		n.Anchor = m.one("", "a", " ", "\xff")
	case 3:
		n.Text = m.one("", "a", " ", "\xff")
	case 4:
		n.Kids = append(n.Kids, scalar("odd"), api.Node{})
	case 5:
		n.At = m.rand.Int() - m.rand.Int()
	}
	for i := range n.Kids {
		n.Kids[i] = m.spoiled(n.Kids[i])
	}
	return n
}

func (m maker) doc(deep int) api.Doc {
	root, _ := m.node(deep, nil)
	if m.odd {
		root = m.spoiled(root)
	}
	dirs := []string{"%YAML 1.2", "%TAG !e! x:", "%TAG ! y", "%TAG !! !", "%a", "%TAG !f!"}
	m.rand.Shuffle(len(dirs), func(i, j int) { dirs[i], dirs[j] = dirs[j], dirs[i] })
	return api.Doc{Head: m.comments(), Dirs: dirs[:m.rand.IntN(len(dirs))], Mark: true, Root: root, Foot: m.comments()}
}

// 20.1, 20.2: documents of all kinds, alone and one behind the other.
func TestMade(t *testing.T) {
	t.Parallel()
	counts, vertexes, shared := map[api.Errno]int{}, 0, 0
	for seed := range uint64(15000) {
		m := maker{rand: random(seed)}
		st := api.Stream{Docs: []api.Doc{m.doc(5), m.doc(3), m.doc(2)}[:1+seed%3]}
		counts[sameAsWords(t, st)]++
		all, _, _ := grap.All(st)
		for _, graph := range all {
			vertexes += len(graph)
			for _, v := range graph {
				shared += len(v.Kids)
			}
		}
		shared += len(all)
	}
	shared -= vertexes // each vertex but a root is once a Kid of another; what is more are aliases
	if counts[api.OK] < 5000 || counts[api.ErrName] < 300 || counts[api.ErrTag] < 300 || vertexes < 50000 || shared < 20000 {
		t.Errorf("only these: %v, with %d vertexes and %d aliases", counts, vertexes, shared)
	}
}

// 20.1: nothing of a document tells what it means but its directives and the Kinds, Styles, Texts, Anchors, Tags and Kids of its nodes; and of Anchors and of the Texts of aliases, only which are equal.
func TestNothingElse(t *testing.T) {
	for seed := range uint64(3000) {
		d := maker{rand: random(seed)}.doc(5)
		graph, _, e := grap.Load(d)
		renamed := map[string]string{}
		var strip func(n api.Node) api.Node
		rename := func(s string) string {
			if s == "" {
				return ""
			}
			if renamed[s] == "" {
				renamed[s] = "name" + strconv.Itoa(len(renamed))
			}
			return renamed[s]
		}
		strip = func(n api.Node) api.Node {
			x := api.Node{Kind: n.Kind, Style: n.Style, Anchor: rename(n.Anchor), Tag: n.Tag, Text: n.Text}
			if n.Kind == api.KAlias {
				x.Text = rename(n.Text)
			}
			for _, kid := range n.Kids {
				x.Kids = append(x.Kids, strip(kid))
			}
			return x
		}
		checkLoad(t, fmt.Sprintf("%+v, bare", d), api.Doc{Dirs: d.Dirs, Root: strip(d.Root)}, graph, 0, e)
	}
}
