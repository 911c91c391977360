package stre_test

import (
	"math/rand/v2"
	"slices"
	"strconv"
	"strings"
	"testing"

	"bosket/api"
	"bosket/stre"
	"bosket/tree"
)

// writer writes streams by the chapter's words, and knows what is to be read of them.
type writer struct {
	out  strings.Builder
	rand *rand.Rand
	told []string // the texts and the comments that were written
}

// roots are the contents of documents, without comments behind them; the first of them can stand beside a mark.
var roots = []string{
	"a", "b c\n d", "é:é", "'e #f'", "\"g\\n\"", "[h, i: j]", "{k,\n #l\n m: [n]}", "*o", "&p q", "!r", "&s !!t\n u", "|\n v\n w", ">-\n x\n\n y",
	"- a\n- b", "- - c\n  - d\n- e", "f: g\nh:\n- i", "? j\n: k", ": l", "&m n: o", "- p #q\n#r\n- s", "t:\n #u\n v", "-", "w:", "- |\n x\n- y", "--", "..-", "a%",
}

// besides is how many of them can.
const besides = 13

// directives are their words.
var directives = [][]string{{"%YAML", "1.2"}, {"%TAG", "!", "!a"}, {"%TAG", "!!", "x:%41#"}, {"%TAG", "!b!", "!"}, {"%c"}, {"%c", "d", "%#"}, {"%é#", "---"}}

func (w *writer) chance(of int) bool { return w.rand.IntN(of) == 0 }

func (w *writer) write(s string) { w.out.WriteString(s) }

func (w *writer) one(of ...string) { w.write(of[w.rand.IntN(len(of))]) }

// white writes what stands ahead of a word or a comment in its row.
func (w *writer) white() { w.one(" ", " ", "  ", "\t", " \t ") }

// note writes a comment, below so many blank rows.
func (w *writer) note(above int) api.Comment {
	c := api.Comment{Text: []string{"", " ", "#", "\t# "}[w.rand.IntN(4)] + strconv.Itoa(len(w.told)), Blank: above}
	w.told = append(w.told, "#"+c.Text)
	w.write("#" + c.Text)
	w.one("", "", " ", " \t")
	return c
}

// end writes the end of a row: a comment, perhaps, and the line feed.
func (w *writer) end() (notes []api.Comment) {
	if w.chance(3) {
		w.white()
		notes = append(notes, w.note(0))
	} else {
		w.one("", "", " ", "\t ")
	}
	w.write("\n")
	return notes
}

// rows writes blank rows and comments, each with one of these ahead, and tells how many of the former stand at the end.
func (w *writer) rows(ahead ...string) (notes []api.Comment, above int) {
	for w.chance(2) {
		w.one(ahead...)
		if w.chance(2) {
			w.write("\n")
			above++
			continue
		}
		notes = append(notes, w.note(above))
		w.write("\n")
		above = 0
	}
	return notes, above
}

// between writes such rows where no document is ahead that they could belong to.
func (w *writer) between() (notes []api.Comment, above int) {
	return w.rows("", "", " ", "\t", "   ", " \t")
}

// dots writes a row of dots, perhaps more of them, and tells the comments there.
func (w *writer) dots() (notes []api.Comment) {
	w.write("...")
	notes = w.end()
	for w.chance(3) {
		more, _ := w.between()
		w.write("...")
		notes = slices.Concat(notes, more, w.end())
	}
	return notes
}

// directives writes those of doc, behind the comments of its head.
func (w *writer) directives(doc *api.Doc) {
	order := w.rand.Perm(len(directives))
	for _, i := range order[:1+w.rand.IntN(3)] {
		words := directives[i]
		doc.Dirs = append(doc.Dirs, strings.Join(words, " "))
		w.write(words[0])
		for _, word := range words[1:] {
			w.white()
			w.write(word)
		}
		near := w.end()
		notes, _ := w.between()
		doc.Head = slices.Concat(doc.Head, near, notes)
	}
}

// root writes one of the first so many roots for doc, behind comments and so many blank rows; and what stands behind it.
func (w *writer) root(doc *api.Doc, first int, lead []api.Comment, above int) {
	s := roots[w.rand.IntN(first)] + "\n"
	node, _, _, _ := tree.Read(s, 0, false)
	w.told = append(w.told, told(node)...)
	doc.Root = shift(node, w.out.Len())
	doc.Root.Lead = slices.Concat(lead, node.Lead)
	if node.Style == api.SBlock {
		doc.Root.Kids[0].Blank = above
	}
	w.write(s)
	if node.Style == api.SLiteral || node.Style == api.SFolded {
		doc.Foot, _ = w.rows("") // what is further in would belong to the scalar
		return
	}
	doc.Foot, _ = w.between()
}

// mark writes a document from its mark on.
func (w *writer) mark(doc *api.Doc) {
	doc.Mark = true
	w.write("---")
	switch w.rand.IntN(3) {
	case 0:
		doc.Root = api.Node{Kind: api.KScalar, Style: api.SPlain, At: -1}
		if near := w.end(); len(near) > 0 {
			doc.Root.HasTrail, doc.Root.Trail = true, near[0].Text
		}
		doc.Foot, _ = w.between()
	case 1:
		w.white()
		w.root(doc, besides, nil, 0)
	default:
		near := w.end()
		notes, above := w.between()
		w.root(doc, len(roots), append(near, notes...), above)
	}
}

// document writes one, behind another one or at the beginning.
func (w *writer) document(first bool) (doc api.Doc) {
	dots := w.chance(2)
	if dots && first {
		doc.Head, _ = w.between()
	}
	if dots {
		doc.Head = append(doc.Head, w.dots()...)
	}
	if !dots && !first {
		w.mark(&doc)
		return doc
	}
	notes, above := w.between()
	kind := w.rand.IntN(3)
	if kind == 0 {
		w.root(&doc, len(roots), notes, above)
		return doc
	}
	doc.Head = append(doc.Head, notes...)
	if kind == 1 {
		w.directives(&doc)
	}
	w.mark(&doc)
	return doc
}

// text writes a stream.
func (w *writer) text() (stream api.Stream) {
	for range w.rand.IntN(5) {
		stream.Docs = append(stream.Docs, w.document(len(stream.Docs) == 0))
	}
	if len(stream.Docs) == 0 {
		stream.Tail, _ = w.between()
	}
	if w.chance(3) {
		near := w.dots()
		notes, _ := w.between()
		stream.Tail = slices.Concat(stream.Tail, near, notes)
	}
	return stream
}

// 18.3 (W2, W3): streams that were written by the chapter's words are read as they were meant: with as many documents, the same texts, in the same order, and each comment between the same ones.
func TestWritten(t *testing.T) {
	t.Parallel()
	sizes := 0
	for seed := range uint64(100000) {
		w := &writer{rand: rand.New(rand.NewPCG(seed, 18))}
		stream := w.text()
		s := w.out.String()
		got, at, e := stre.Parse(s)
		if !sameStream(got, stream) || at != 0 || e != api.OK {
			t.Fatalf("Parse(%q) = %s, %v, %d, %d, want %s, %v", s, show(got), places(got), at, e, show(stream), places(stream))
		}
		if all := toldAll(got); !slices.Equal(all, w.told) {
			t.Fatalf("Parse(%q) tells %q, want %q", s, all, w.told)
		}
		check(t, s)
		sizes += len(w.told)
	}
	if sizes < 600000 {
		t.Errorf("only %d texts and comments were written", sizes)
	}
}
