package leaf_test

import (
	"math/rand/v2"
	"strconv"
	"strings"
	"testing"

	"bosket/api"
	"bosket/stre"
)

// writer writes streams, row by row, and knows what is to be told of them.
type writer struct {
	out   strings.Builder
	rand  *rand.Rand
	row   []string
	inner bool // whether a comment was written that is within a key
}

func (w *writer) chance(of int) bool { return w.rand.IntN(of) == 0 }

func (w *writer) write(s string) { w.out.WriteString(s) }

func (w *writer) indent(n int) { w.write(strings.Repeat(" ", n)) }

// fresh returns a text that was not written yet.
func (w *writer) fresh() string { return "w" + strconv.Itoa(len(w.row)) }

// note writes a comment, and tells what it is told by.
func (w *writer) note(inner bool) string {
	s := []string{"#", "# ", "##", "#="}[w.rand.IntN(4)] + w.fresh()
	w.write(s)
	w.inner = w.inner || inner
	return s
}

// end writes the end of a row, perhaps with a comment.
func (w *writer) end(inner bool) {
	if w.chance(5) {
		w.write(" ")
		w.row = append(w.row, w.note(inner))
	}
	w.write("\n")
}

// notes writes rows of comments, and blank ones.
func (w *writer) notes(n int, inner bool) {
	for w.chance(5) {
		if w.chance(4) {
			w.write("\n")
		}
		w.indent(n)
		w.row = append(w.row, w.note(inner))
		w.write("\n")
	}
}

// leaf writes a scalar in one row, or an alias.
func (w *writer) leaf() {
	s := w.fresh()
	kind := w.rand.IntN(4)
	if kind < 3 && w.chance(4) {
		w.write([]string{"&a ", "!b ", "!c &d "}[w.rand.IntN(3)])
	}
	w.write([]string{s, "'" + s + "'", `"` + s + `"`, "*" + s}[kind])
	w.row = append(w.row, []string{"=", "=", "=", "*"}[kind]+s)
}

// literal writes a block scalar, whose comment stands ahead of its text but is told behind it.
func (w *writer) literal(n int, inner bool) {
	s := w.fresh()
	w.row = append(w.row, "="+s+"\n")
	w.write("|")
	w.end(inner)
	w.indent(n + 2)
	w.write(s + "\n")
}

// brackets writes a collection in brackets up to its closing one.
func (w *writer) brackets(n int, inner bool) {
	open, closing := "[", "]"
	if w.chance(2) {
		open, closing = "{", "}"
	}
	w.write(open)
	for range w.rand.IntN(4) {
		w.end(inner)
		w.notes(n+1, inner)
		w.indent(n + 1)
		w.leaf()
		w.end(inner)
		w.notes(n+1, inner)
		w.indent(n + 1)
		w.write(",")
	}
	w.end(inner)
	w.notes(n+1, inner)
	w.indent(n + 1)
	w.write(closing)
}

// node writes a node in rows of its own, n columns in. Of a key, what is in it is within a key, but what stands behind it is not.
func (w *writer) node(n, deep int, inner, key bool) {
	kind := w.rand.IntN(7)
	if deep == 0 {
		kind = w.rand.IntN(3)
	}
	w.indent(n)
	switch kind {
	case 0:
		w.leaf()
		w.end(inner)
	case 1:
		w.literal(n, inner)
	case 2:
		w.brackets(n, inner || key)
		w.end(inner)
	case 3, 4:
		w.sequence(n, deep, inner || key)
	default:
		w.mapping(n, deep, inner || key)
	}
}

// sequence writes a KSeq in block style. Its first row is indented.
func (w *writer) sequence(n, deep int, inner bool) {
	w.write("-")
	w.below(n, deep, inner)
	for w.chance(2) {
		w.notes(n, inner)
		w.indent(n)
		w.write("-")
		w.below(n, deep, inner)
	}
}

// mapping writes a KMap in block style. Its first row is indented.
func (w *writer) mapping(n, deep int, inner bool) {
	w.entry(n, deep, inner)
	for w.chance(2) {
		w.notes(n, inner)
		w.indent(n)
		w.entry(n, deep, inner)
	}
}

// below writes an item or a value behind its indicator: an empty one, one in this row, or one in the next rows.
func (w *writer) below(n, deep int, inner bool) {
	switch w.rand.IntN(5) {
	case 0:
		w.end(inner)
	case 1:
		w.write(" ")
		w.leaf()
		w.end(inner)
	default:
		w.end(inner)
		w.notes(n+2, inner)
		w.node(n+2, deep-1, inner, false)
	}
}

// entry writes a key and its value.
func (w *writer) entry(n, deep int, inner bool) {
	if w.chance(2) {
		w.leaf()
		w.write(" :")
		w.below(n, deep, inner)
		return
	}
	w.write("?")
	w.end(inner)
	w.notes(n+2, inner)
	if !w.chance(5) {
		w.node(n+2, deep-1, inner, true)
	}
	w.notes(n, inner)
	w.indent(n)
	w.write(":")
	w.below(n, deep, inner)
}

// stream writes documents with comments around them.
func (w *writer) stream() {
	for i := range 1 + w.rand.IntN(3) {
		dots := i > 0 && w.chance(2)
		if dots {
			w.write("...")
			w.end(false)
		}
		w.notes(0, false)
		if (dots || i == 0) && w.chance(4) {
			w.write("%d")
			w.end(false)
		}
		w.write("---")
		w.end(false)
		w.notes(0, false)
		w.node(0, 3, false, false)
		w.notes(0, false)
	}
	if w.chance(3) {
		w.write("...")
		w.end(false)
		w.notes(0, false)
	}
}

// 19.1, 19.2, 19.3 (W3): of streams that were written, the texts and the comments are told in the order in which they were, and it is known which of the comments are within keys.
func TestWritten(t *testing.T) {
	t.Parallel()
	within, told := 0, 0
	for seed := range uint64(20000) {
		w := &writer{rand: rand.New(rand.NewPCG(seed, 19))}
		w.stream()
		s := w.out.String()
		st, at, e := stre.Parse(s)
		if e != api.OK {
			t.Fatalf("Parse(%q) = %d, %d", s, at, e)
		}
		check(t, strconv.Quote(s), st, w.row, w.inner)
		told += len(w.row)
		if w.inner {
			within++
		}
	}
	if within < 2000 || told < 200000 {
		t.Errorf("only %d streams with comments within keys, %d texts and comments", within, told)
	}
}
