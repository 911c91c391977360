package grap_test

import (
	"cmp"
	"math/rand/v2"
	"slices"
	"strconv"
	"strings"
	"testing"

	"bosket/api"
	"bosket/esca"
	"bosket/grap"
	"bosket/stre"
)

// meant is a node that is to be written: it is an alias of the node with a number, or has a number of its own.
type meant struct {
	alias  bool
	number int
	plain  bool // whether it is a plain scalar
	own    bool // whether its tag is the one that it has without any
	v      api.Vertex
	kids   []*meant
}

// plains are texts of plain scalars, with their words.
var plains = []struct{ text, word string }{{"", "null"}, {"~", "null"}, {"true", "bool"}, {"12", "int"}, {"0x1F", "int"}, {"-1.5", "float"}, {".inf", "float"}, {"a b", "str"}, {"é", "str"}, {"a*a", "str"}, {"0b1", "str"}}

var quoteds = []string{"", "12", "~", "a", "*a", "&a b", "!t", "'\"", " x ", "a: b\nc", "l\n", "l\nm\n", "\t", "é"}

// fulls are the tags that a node may be given.
var fulls = []string{long + "str", long + "int", long + "seq", long + "t", "!t", "!a!b", "x:y", "x:", "!té", "x:é,[]"}

// planner makes documents that are to be written, and knows their graphs.
type planner struct {
	rand  *rand.Rand
	graph []api.Vertex
}

func (p *planner) chance(of int) bool { return p.rand.IntN(of) == 0 }

func (p *planner) node(deep int) *meant {
	if len(p.graph) > 0 && p.chance(4) {
		return &meant{alias: true, number: p.rand.IntN(len(p.graph))}
	}
	n := &meant{number: len(p.graph), own: true, v: api.Vertex{Kind: api.KScalar}}
	full := own(api.KScalar)
	switch {
	case deep > 0 && !p.chance(3):
		n.v.Kind = api.KSeq + p.rand.IntN(2)
		full = own(n.v.Kind)
	case p.chance(3):
		n.v.Text = quoteds[p.rand.IntN(len(quoteds))]
	default:
		plain := plains[p.rand.IntN(len(plains))]
		n.plain, n.v.Text, full = true, plain.text, long+plain.word
	}
	n.v.Tag = full
	if p.chance(5) {
		n.v.Tag = slices.Concat(fulls, []string{own(n.v.Kind)})[p.rand.IntN(len(fulls)+1)]
		n.own = n.v.Tag == full
	}
	p.graph = append(p.graph, n.v)
	if n.v.Kind == api.KScalar {
		return n
	}
	for range p.rand.IntN(4) * (1 + n.v.Kind - api.KSeq) {
		kid := p.node(deep - 1)
		n.kids = append(n.kids, kid)
		p.graph[n.number].Kids = append(p.graph[n.number].Kids, kid.number)
	}
	return n
}

// steps goes through the nodes in the order in which they begin.
func steps(n *meant, use func(*meant)) {
	use(n)
	for _, kid := range n.kids {
		steps(kid, use)
	}
}

// writer writes such documents: names, forms of tags, styles and rows as it likes.
type writer struct {
	out   strings.Builder
	rand  *rand.Rand
	dirs  map[string]string // the prefixes of handles
	step  int               // how many nodes of the document have begun
	last  map[int]int       // at which step the last alias of a number is
	named map[string]int    // of which number the last node with a name is
	names map[int]string    // the name of a number
	wrong int               // at which step something is wrong, or -1
	at    int               // where that is
	code  api.Errno         // and what
}

func (w *writer) chance(of int) bool { return w.rand.IntN(of) == 0 }

func (w *writer) write(s string) { w.out.WriteString(s) }

func (w *writer) one(of ...string) string { return of[w.rand.IntN(len(of))] }

func (w *writer) indent(n int) { w.write(strings.Repeat(" ", n)) }

// name gives a node a name to which no alias further on belongs.
func (w *writer) name(n *meant) string {
	for i := 0; ; i++ {
		s := []string{"a", "b", "A", "é", "a:", "1"}[w.rand.IntN(6)]
		if i > 3 {
			s = "n" + strconv.Itoa(i)
		}
		if holder, held := w.named[s]; !held || w.last[holder] < w.step {
			w.named[s], w.names[n.number] = n.number, s
			return s
		}
	}
}

// escaped returns what a suffix is for, with codes where there must be some, and elsewhere.
func (w *writer) escaped(s string) string {
	var out strings.Builder
	for i := range len(s) {
		if strings.IndexByte("!,[]{}", s[i]) >= 0 || s[i] >= 0x80 || w.chance(6) {
			digits := strconv.FormatInt(int64(s[i])+0x100, 16)[1:]
			out.WriteString("%" + w.one(digits, strings.ToUpper(digits)))
			continue
		}
		out.WriteByte(s[i])
	}
	return out.String()
}

// tag returns a form of the tag of a node, or none if it needs none.
func (w *writer) tag(n *meant) string {
	var forms []string
	if n.own {
		forms = append(forms, "", "", "")
	}
	full := n.v.Tag
	if full == own(n.v.Kind) {
		forms = append(forms, "!")
	}
	if !strings.Contains(full, "é") {
		forms = append(forms, "!<"+full+">")
	}
	for _, handle := range []string{"!", "!!", "!e!", "!f!"} {
		if rest, ok := strings.CutPrefix(full, w.dirs[handle]); ok && w.dirs[handle] != "" && rest != "" {
			forms = append(forms, handle+w.escaped(rest))
		}
	}
	return forms[w.rand.IntN(len(forms))]
}

// begin writes the properties of a node, and whether there are some; or all of it, if it is an alias or something is wrong with it.
func (w *writer) begin(n *meant, must bool) (some, all bool) {
	w.step++
	wrong := w.wrong == w.step-1
	if wrong {
		w.at, w.code = w.out.Len(), api.ErrName
	}
	switch {
	case wrong && w.chance(2):
		w.write("*" + w.one("none", "aa", "&a"))
		return true, true
	case n.alias && !wrong:
		w.write("*" + cmp.Or(w.names[n.number], "lost")) // it is lost only behind something wrong
		return true, true
	}
	var props []string
	if _, used := w.last[n.number]; used && !n.alias || must || w.chance(6) {
		props = append(props, "&"+w.name(n))
	}
	if wrong {
		w.code = api.ErrTag
		props = append(props, w.one("!g!t", "!t%ff", "!!%c3"))
	} else if s := w.tag(n); s != "" {
		props = append(props, s)
	}
	if len(props) == 2 && w.chance(2) {
		slices.Reverse(props)
	}
	w.write(strings.Join(props, w.one(" ", "  ", "\t")))
	return len(props) > 0, wrong
}

// content writes a scalar or a collection in brackets, in one row.
func (w *writer) content(n *meant) {
	switch {
	case n.plain:
		w.write(n.v.Text)
	case n.v.Kind == api.KScalar:
		w.write(esca.Quote(n.v.Text, w.chance(2)))
	case n.v.Kind == api.KSeq:
		w.write("[")
		for i, kid := range n.kids {
			w.write(w.one("", " "))
			w.inline(kid, true)
			if i < len(n.kids)-1 || w.chance(2) {
				w.write(w.one(",", " , "))
			}
		}
		w.write("]")
	default:
		w.write("{")
		for i := 0; i < len(n.kids); i += 2 {
			w.write(w.one("", "? "))
			w.inline(n.kids[i], false)
			w.write(" : ")
			w.inline(n.kids[i+1], false)
			w.write(w.one(",", " , "))
		}
		w.write("}")
	}
}

// inline writes a node in one row; an empty one has properties, if it must.
func (w *writer) inline(n *meant, must bool) {
	must = must && n.plain && n.v.Text == ""
	if some, all := w.begin(n, must); !all {
		if some {
			w.write(" ")
		}
		w.content(n)
	}
}

// literal writes the rows of a block scalar.
func (w *writer) literal(n *meant, in int) {
	rows := strings.Split(strings.TrimSuffix(n.v.Text, "\n"), "\n")
	between := "\n"
	if w.chance(2) {
		w.write(">\n")
		between = "\n\n"
	} else {
		w.write("|\n")
	}
	for i, row := range rows {
		if i > 0 {
			w.write(between)
		}
		w.indent(in)
		w.write(row)
	}
	w.write("\n")
}

// node writes a node in rows of its own, so many columns in, or from the position on.
func (w *writer) node(n *meant, in int) {
	block := !n.alias && len(n.kids) > 0 && !w.chance(3)
	some, all := w.begin(n, false)
	if all {
		w.write("\n")
		return
	}
	if !block {
		if some {
			w.write(" ")
		}
		if n.v.Kind == api.KScalar && !n.plain && strings.HasPrefix(n.v.Text, "l\n") {
			w.literal(n, in+2)
			return
		}
		w.content(n)
		w.write(w.one("", " ", " # *a") + "\n")
		return
	}
	if some {
		w.write(w.one("", " # &a") + "\n")
		w.indent(in)
	}
	for i, kid := range n.kids {
		if i > 0 {
			w.indent(in)
		}
		w.write([]string{"-", "?", ":"}[(1+i%2)*(n.v.Kind-api.KSeq)])
		w.below(kid, in+2)
	}
}

// below writes a node behind its indicator, or in the next rows.
func (w *writer) below(n *meant, in int) {
	if w.chance(3) {
		w.write(" ")
		w.inline(n, false)
		w.write("\n")
		return
	}
	w.write("\n")
	w.indent(in)
	w.node(n, in)
}

// document writes one, with directives perhaps.
func (w *writer) document(n *meant) {
	w.step, w.last, w.named, w.names = 0, map[int]int{}, map[string]int{}, map[int]string{}
	w.dirs = map[string]string{"!": "!", "!!": long}
	step, must := 0, false
	steps(n, func(n *meant) {
		if n.alias {
			w.last[n.number] = step
		}
		must = must || strings.HasPrefix(n.v.Tag, "x:é")
		step++
	})
	w.write("...\n")
	if must || w.chance(2) {
		w.directives()
	}
	w.write("---\n")
	w.node(n, 0)
}

// directives writes some, with which all tags can be written all the same.
func (w *writer) directives() {
	if w.chance(2) {
		w.write("%YAML 1.2\n")
	}
	give := func(handle, prefix string) {
		w.dirs[handle] = prefix
		w.write("%TAG " + handle + " " + prefix + "\n")
	}
	give("!e!", "!")
	give("!f!", w.one("x", "x:"))
	if w.chance(2) {
		give("!", w.one("x", "!a", long))
	}
	if w.chance(2) {
		give("!!", w.one("x:", "!", "tag:"))
	}
}

// plan makes so many documents with their graphs; the roots are no aliases.
func plan(seed uint64, docs int) (all []*meant, graphs [][]api.Vertex) {
	for i := range docs {
		p := &planner{rand: random(seed*8 + uint64(i))}
		all = append(all, p.node(4))
		graphs = append(graphs, p.graph)
	}
	return all, graphs
}

// written returns a stream of these documents, of the forms that hang on seed, and what is wrong in it: at a step of one of them.
func written(all []*meant, seed uint64, doc, step int) *writer {
	w := &writer{rand: rand.New(rand.NewPCG(seed, 2020))}
	for i, n := range all {
		w.wrong = -1
		if i == doc {
			w.wrong = step
		}
		w.document(n)
	}
	return w
}

// 20.1, 20.2, 20.3 (W2): documents have the graphs that they were written for; and however they are written, Same holds these for one and the same.
func TestWritten(t *testing.T) {
	t.Parallel()
	vertexes, sizes := 0, 0
	for seed := range uint64(12000) {
		docs, graphs := plan(seed, 1+int(seed%3))
		var read [][][]api.Vertex
		for form := range uint64(2) {
			w := written(docs, seed*2+form, -1, 0)
			s := w.out.String()
			st, at, e := stre.Parse(s)
			if e != api.OK {
				t.Fatalf("Parse(%q) = %d, %d: %q", s, at, e, s[at:])
			}
			all, at, e := grap.All(st)
			if !slices.EqualFunc(all, graphs, equal) || at != 0 || e != api.OK {
				t.Fatalf("All of %q = %s, %d, %d, want %s", s, showAll(all), at, e, showAll(graphs))
			}
			read = append(read, all)
			sizes += len(s)
		}
		for i, graph := range graphs {
			vertexes += len(graph)
			if !grap.Same(read[0][i], read[1][i]) {
				t.Fatalf("Same(%s, %s) = false", show(read[0][i]), show(read[1][i]))
			}
		}
	}
	if vertexes < 100000 || sizes < 2000000 {
		t.Errorf("only %d vertexes in %d bytes", vertexes, sizes)
	}
}

// 20.1, 20.2: something wrong that was written is told, at its place; and nothing but it.
func TestWrittenWrong(t *testing.T) {
	t.Parallel()
	counts := map[api.Errno]int{}
	for seed := range uint64(8000) {
		docs, _ := plan(seed, 1+int(seed%3))
		doc, count := int(seed/3)%len(docs), 0
		steps(docs[doc], func(*meant) { count++ })
		w := written(docs, seed, doc, int(seed/9)%count)
		s := w.out.String()
		st, at, e := stre.Parse(s)
		if e != api.OK {
			t.Fatalf("Parse(%q) = %d, %d: %q", s, at, e, s[at:])
		}
		if all, at, e := grap.All(st); len(all) != 0 || at != w.at || e != w.code {
			t.Fatalf("All of %q = %s, %d, %d, want %d, %d", s, showAll(all), at, e, w.at, w.code)
		}
		counts[w.code]++
	}
	if counts[api.ErrName] < 2000 || counts[api.ErrTag] < 2000 {
		t.Errorf("only these: %v", counts)
	}
}

// 20.2, 20.3 (W2): graphs that differ in one number, tag, text or kind are not the same.
func TestChanged(t *testing.T) {
	for seed := range uint64(5000) {
		_, graphs := plan(seed, 1)
		graph, r := graphs[0], random(seed)
		other := copied(graph)
		i := r.IntN(len(other))
		v := &other[i]
		switch r.IntN(5) {
		case 0:
			v.Kind++
		case 1:
			v.Tag += "x"
		case 2:
			v.Text += "x"
		case 3:
			v.Kids = append(v.Kids, i)
		case 4:
			if len(v.Kids) == 0 {
				other = other[:len(other)-1]
				break
			}
			v.Kids[r.IntN(len(v.Kids))]++
		}
		if !grap.Same(graph, graph) || grap.Same(graph, other) || grap.Same(other, graph) {
			t.Fatalf("Same(%s, %s) is wrong", show(graph), show(other))
		}
	}
}
