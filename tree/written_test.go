package tree_test

import (
	"math/rand/v2"
	"slices"
	"strconv"
	"strings"
	"testing"

	"bosket/api"
	"bosket/flow"
	"bosket/tree"
)

// writer writes documents by the chapter's words, and knows what is to be read of them.
type writer struct {
	out   strings.Builder
	rand  *rand.Rand
	told  []string // the texts and the comments that were written, a block scalar's ahead of the comment in its header
	count int      // of comments
}

func (w *writer) chance(of int) bool { return w.rand.IntN(of) == 0 }

func (w *writer) write(s string) { w.out.WriteString(s) }

func (w *writer) one(of ...string) { w.write(of[w.rand.IntN(len(of))]) }

func (w *writer) blanks(n int) { w.write(strings.Repeat(" ", n)) }

// white writes what may stand between two parts in a row.
func (w *writer) white() { w.one(" ", " ", "  ", "\t", " \t ") }

func (w *writer) col() int {
	s := w.out.String()
	return len(s) - strings.LastIndexByte(s, '\n') - 1
}

// scalars and aliases, as they are written, and what is to be read of them; some lie in several rows.
var scalars = []struct {
	s, text     string
	kind, style int
}{
	{"a", "a", api.KScalar, api.SPlain}, {"b  c", "b  c", api.KScalar, api.SPlain}, {"-d", "-d", api.KScalar, api.SPlain}, {":e:f", ":e:f", api.KScalar, api.SPlain}, {"?g#h", "?g#h", api.KScalar, api.SPlain}, {"é'\"", "é'\"", api.KScalar, api.SPlain}, {"i, j]", "i, j]", api.KScalar, api.SPlain}, {"k - l &m", "k - l &m", api.KScalar, api.SPlain},
	{"a\nb", "a b", api.KScalar, api.SPlain}, {"c \n\n\td", "c\nd", api.KScalar, api.SPlain}, {"e\n- f\n? g", "e - f ? g", api.KScalar, api.SPlain},
	{"''", "", api.KScalar, api.SSingle}, {"'a: b, '", "a: b, ", api.KScalar, api.SSingle}, {"'- '''", "- '", api.KScalar, api.SSingle}, {"' #c\n d'", " #c d", api.KScalar, api.SSingle},
	{`""`, "", api.KScalar, api.SDouble}, {`"\": \""`, "\": \"", api.KScalar, api.SDouble}, {`"? \t #"`, "? \t #", api.KScalar, api.SDouble}, {"\"a\\\n b\"", "ab", api.KScalar, api.SDouble},
	{"*a", "a", api.KAlias, 0}, {"*b:", "b:", api.KAlias, 0}, {"*#", "#", api.KAlias, 0},
}

// flows are collections in brackets.
var flows = []string{"[]", "{}", "[a, b: c]", "{'a':b, ? c}", "[[a], {b}]", "[&a b, *c]", "[a,\nb]", "{a: b\n, c: d}", "[ #x\n]", "{a: #y\n b #z\n}"}

var properties = []struct{ s, anchor, tag string }{{"&a", "a", ""}, {"!", "", "!"}, {"!!t", "", "!!t"}, {"!t\t&b", "b", "!t"}, {"&: !<u,v>", ":", "!<u,v>"}}

// near writes the rest of a row: a comment, perhaps, behind White; and the line feed.
func (w *writer) near() (notes []api.Comment) {
	if w.chance(3) {
		w.white()
		notes = w.note()
	} else {
		w.one("", "", " ", "\t ")
	}
	w.write("\n")
	return notes
}

func (w *writer) note() []api.Comment {
	w.count++
	c := api.Comment{Text: " c" + strconv.Itoa(w.count), Blank: above(w.out.String(), w.out.Len())}
	w.told = append(w.told, "#"+c.Text)
	w.write("#" + c.Text)
	w.one("", " ", "\t ")
	return []api.Comment{c}
}

// rows writes rows that are blank or comments, which are less than limit further in, if there is a limit.
func (w *writer) rows(limit int) (notes []api.Comment) {
	for w.chance(3) {
		for w.chance(3) {
			w.write("\n")
		}
		if limit < 0 {
			w.one("", "  \n", "\t\n", " ", "\t", "      ")
		} else {
			w.blanks(w.rand.IntN(limit))
		}
		if w.chance(4) {
			w.write("\n")
		} else {
			notes = append(notes, w.note()...)
			w.write("\n")
		}
	}
	return notes
}

func empties() api.Node {
	return api.Node{Kind: api.KScalar, Style: api.SPlain, At: -1}
}

// props writes properties, with the node that they make.
func (w *writer) props() api.Node {
	p := properties[w.rand.IntN(len(properties))]
	node := api.Node{Kind: api.KScalar, Style: api.SPlain, At: w.out.Len(), Anchor: p.anchor, Tag: p.tag}
	w.write(p.s)
	return node
}

// fill gives a node its content, but leaves it its properties and its place, if it has some.
func fill(node, content api.Node) api.Node {
	if node.Anchor != "" || node.Tag != "" {
		content.At, content.Anchor, content.Tag = node.At, node.Anchor, node.Tag
	}
	content.Lead, content.Blank = node.Lead, node.Blank
	return content
}

// scalar writes a scalar, an alias or a collection in brackets for node, whose rows are further in than n; in one row, if row.
func (w *writer) scalar(node api.Node, n int, row bool) api.Node {
	indent := func(s string) string {
		for strings.Contains(s, "\n") {
			s = strings.Replace(s, "\n", "\r"+strings.Repeat(" ", n+1+w.rand.IntN(3)), 1)
		}
		return strings.ReplaceAll(s, "\r", "\n")
	}
	at := w.out.Len()
	if w.chance(4) {
		s := flows[w.rand.IntN(len(flows))]
		for row && strings.Contains(s, "\n") {
			s = flows[w.rand.IntN(len(flows))]
		}
		w.write(indent(s))
		content, _, _ := flow.Read(w.out.String(), at, n, 0)
		w.told = append(w.told, told(content)...)
		return fill(node, content)
	}
	c := scalars[w.rand.IntN(len(scalars))]
	for row && strings.Contains(c.s, "\n") || c.kind == api.KAlias && node.Anchor+node.Tag != "" {
		c = scalars[w.rand.IntN(len(scalars))]
	}
	w.write(indent(c.s))
	switch {
	case c.kind == api.KAlias:
		w.told = append(w.told, "*"+c.text)
	case c.text != "":
		w.told = append(w.told, "="+c.text)
	}
	return fill(node, api.Node{Kind: c.kind, Style: c.style, At: at, Text: c.text})
}

// block writes a block scalar for node, with its rows, and returns how far in these are, too.
func (w *writer) block(node api.Node, n int) (api.Node, int) {
	content := api.Node{Kind: api.KScalar, Style: api.SLiteral, At: w.out.Len()}
	text := []string{"a\nb", "- a", "#b\n\nc: d", " e\nf"}[w.rand.IntN(4)]
	digit := max(n, 0) + 1 + w.rand.IntN(2)
	header, end := "|", "\n"
	if !strings.Contains(text, "\n") && w.chance(2) {
		header, content.Style = ">", api.SFolded
	}
	if text[0] == ' ' || w.chance(4) {
		header += strconv.Itoa(digit - max(n, 0))
	}
	if w.chance(2) {
		header, end = header+"-", ""
	}
	w.write(header)
	content.Text = text + end
	w.told = append(w.told, "="+content.Text)
	if notes := w.near(); len(notes) > 0 {
		content.HasTrail, content.Trail = true, notes[0].Text
	}
	for _, row := range strings.Split(text, "\n") {
		if row != "" {
			w.blanks(digit)
		}
		w.write(row + "\n")
	}
	return fill(node, content), digit
}

// content writes the content of node and the rows behind it, and returns what comments among those belong to none.
func (w *writer) content(node api.Node, n int) (api.Node, []api.Comment) {
	if w.chance(6) {
		node, in := w.block(node, n)
		return node, w.rows(in)
	}
	node = w.scalar(node, n, false)
	if notes := w.near(); len(notes) > 0 {
		node.HasTrail, node.Trail = true, notes[0].Text
	}
	return node, w.rows(-1)
}

// missing returns node, of which nothing more is written, with the comment that ends its row, and what follows it.
func (w *writer) missing(node api.Node, behind byte) (api.Node, []api.Comment) {
	notes := w.near()
	if len(notes) > 0 && (behind != 's' || node.At >= 0) && behind != '?' {
		node.HasTrail, node.Trail = true, notes[0].Text
		notes = nil
	}
	return node, append(notes, w.rows(-1)...)
}

// below writes node in later rows, in a block collection of the column n.
func (w *writer) below(node api.Node, behind byte, n, deep int, props bool) (api.Node, []api.Comment) {
	node.Lead = append(node.Lead, w.near()...)
	node.Lead = append(node.Lead, w.rows(-1)...)
	if behind != '-' && n >= 0 && deep > 0 && w.chance(3) {
		w.blanks(n)
		return w.collection(node, deep, "-")
	}
	w.blanks(n + 1 + w.rand.IntN(3))
	switch {
	case deep > 0 && !w.chance(3):
		return w.collection(node, deep, "-?:")
	case props && w.chance(3):
		return w.more(node, behind, n, deep)
	}
	return w.content(node, n)
}

// more writes properties of node, and whatever follows them.
func (w *writer) more(node api.Node, behind byte, n, deep int) (api.Node, []api.Comment) {
	lead := node.Lead
	node = w.props()
	node.Lead = lead
	switch w.rand.IntN(3) {
	case 0:
		return w.missing(node, behind)
	case 1:
		return w.below(node, behind, n, deep, false)
	}
	w.white()
	return w.content(node, n)
}

// node writes the node behind an indicator, in a block collection of the column n, and the rows behind it; it returns what comments there belong to none.
func (w *writer) node(behind byte, n, deep int) (api.Node, []api.Comment) {
	node := empties()
	switch w.rand.IntN(5) {
	case 0:
		return w.missing(node, behind)
	case 1, 2:
		return w.below(node, behind, n, deep, true)
	}
	if beside := strings.IndexByte("-?:s", behind) >= 0; beside && deep > 0 && w.chance(2) {
		w.blanks(1 + w.rand.IntN(3))
		return w.collection(node, deep, "-?:")
	}
	if behind == 's' && w.col() == 0 {
		w.blanks(w.rand.IntN(3))
	} else {
		w.white()
	}
	if w.chance(3) {
		return w.more(node, behind, n, deep)
	}
	return w.content(node, n)
}

// collection writes a block collection for node, one of those kinds, with the rows behind it; at most deep contain one another.
func (w *writer) collection(node api.Node, deep int, kinds string) (api.Node, []api.Comment) {
	col := w.col()
	node = fill(node, api.Node{Kind: api.KSeq, Style: api.SBlock, At: w.out.Len()})
	if w.rand.IntN(len(kinds)) > 0 {
		node.Kind = api.KMap
	}
	var lead []api.Comment
	open := false // the key behind a query has no colon, so one that follows would be its
	for first := true; first || !w.chance(3); first = false {
		if !first {
			w.blanks(col)
		}
		above := above(w.out.String(), w.out.Len())
		var kids []api.Node
		var after []api.Comment
		switch {
		case node.Kind == api.KSeq:
			w.write("-")
			kids = make([]api.Node, 1)
			kids[0], after = w.node('-', col, deep-1)
		case w.chance(3):
			kids, open, after = w.asked(col, deep-1)
		default:
			kids, after = w.keyed(col, deep-1, !open)
			open = false
		}
		kids[0].Lead = slices.Concat(lead, kids[0].Lead)
		kids[0].Blank = above
		node.Kids = append(node.Kids, kids...)
		lead = after
	}
	return node, lead
}

// asked writes a key behind a query, and its value, or tells that this has no colon.
func (w *writer) asked(col, deep int) (kids []api.Node, open bool, after []api.Comment) {
	w.write("?")
	key, after := w.node('?', col, deep)
	value := empties()
	var lead []api.Comment
	if key.HasTrail {
		lead = []api.Comment{{Text: key.Trail}}
		key.HasTrail, key.Trail = false, ""
	}
	if w.chance(3) {
		value.Lead = lead
		return []api.Node{key, value}, true, after
	}
	w.blanks(col)
	w.write(":")
	lead = append(lead, after...)
	value, after = w.node(':', col, deep)
	value.Lead = slices.Concat(lead, value.Lead)
	return []api.Node{key, value}, false, after
}

// keyed writes an implicit key, which may be empty or not, and its value.
func (w *writer) keyed(col, deep int, empty bool) ([]api.Node, []api.Comment) {
	key := empties()
	named := w.chance(4)
	if named {
		key = w.props()
		w.white()
	}
	if !(named || empty) || !w.chance(4) {
		key = w.scalar(key, col, true)
		w.one("", " ", "\t")
		if key.Kind == api.KAlias {
			w.write(" ")
		}
	}
	w.write(":")
	value, after := w.node('k', col, deep)
	return []api.Node{key, value}, after
}

// 17.10 (W2, W3): documents that were written by the chapter's words are read as they were meant: with the same texts, in the same order, and each comment between the same ones.
func TestWritten(t *testing.T) {
	t.Parallel()
	sizes := 0
	for seed := range uint64(30000) {
		w := &writer{rand: rand.New(rand.NewPCG(seed, 17))}
		w.one("", "", "a\n", "é", "x - y ", "--- b\n...\n")
		behind := byte('s')
		if w.chance(3) {
			w.write("\n---")
			behind = '='
		}
		at := w.out.Len()
		root, rest := w.node(behind, -1, 4)
		to := w.out.Len()
		if len(w.told) > 0 {
			w.one("", "---", "--- c", "...", "... # d")
		}
		s := w.out.String()
		got, notes, end, e := tree.Read(s, at, behind == '=')
		if !same(got, root) || !slices.Equal(notes, rest) || end != to || e != api.OK {
			t.Fatalf("Read(%q, %d, %v) = %s, %v, %s, %d, %d, want %s, %v, %s, %d", s, at, behind == '=', show(got), places(got), list(notes), end, e, show(root), places(root), list(rest), to)
		}
		all := told(got)
		for _, c := range notes {
			all = append(all, "#"+c.Text)
		}
		if !slices.Equal(all, w.told) {
			t.Fatalf("Read(%q, %d, %v) tells %q, want %q", s, at, behind == '=', all, w.told)
		}
		checkAt(t, s, at, behind == '=')
		sizes += len(w.told)
	}
	if sizes < 150000 {
		t.Errorf("only %d texts and comments were written", sizes)
	}
}
