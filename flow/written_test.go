package flow_test

import (
	"math/rand/v2"
	"slices"
	"strconv"
	"strings"
	"testing"

	"bosket/api"
	"bosket/flow"
)

// writer writes collections by the chapter's words, and knows what is to be read of them.
type writer struct {
	out   strings.Builder
	rand  *rand.Rand
	told  []string // the texts and the comments that were written
	count int      // of comments
}

// loose are comments that were written; near, if the first of them stands in the row where the part ahead of it ends.
type loose struct {
	notes []api.Comment
	near  bool
}

func (l loose) and(more loose) loose {
	if len(l.notes) == 0 {
		return more
	}
	return loose{slices.Concat(l.notes, more.notes), l.near}
}

func (w *writer) chance(of int) bool { return w.rand.IntN(of) == 0 }

func (w *writer) one(of ...string) { w.out.WriteString(of[w.rand.IntN(len(of))]) }

// scalars and aliases, as they are written, and what is to be read of them; some lie in several rows.
var scalars = []struct {
	s, text     string
	kind, style int
}{
	{"a", "a", api.KScalar, api.SPlain}, {"b  c", "b  c", api.KScalar, api.SPlain}, {"-d", "-d", api.KScalar, api.SPlain}, {":e:f", ":e:f", api.KScalar, api.SPlain}, {"?g#h", "?g#h", api.KScalar, api.SPlain}, {"é'\"", "é'\"", api.KScalar, api.SPlain},
	{"a\nb", "a b", api.KScalar, api.SPlain}, {"c \n\n\td", "c\nd", api.KScalar, api.SPlain}, {"e\n - f", "e - f", api.KScalar, api.SPlain},
	{"''", "", api.KScalar, api.SSingle}, {"'a: b, '", "a: b, ", api.KScalar, api.SSingle}, {"']'''", "]'", api.KScalar, api.SSingle}, {"' #c\n d'", " #c d", api.KScalar, api.SSingle},
	{`""`, "", api.KScalar, api.SDouble}, {`"}\""`, "}\"", api.KScalar, api.SDouble}, {`"\t: "`, "\t: ", api.KScalar, api.SDouble}, {"\"a\\\n b\"", "ab", api.KScalar, api.SDouble},
	{"*a", "a", api.KAlias, 0}, {"*b:", "b:", api.KAlias, 0}, {"**#", "*#", api.KAlias, 0},
}

var properties = []struct{ s, anchor, tag string }{{"&a", "a", ""}, {"!", "", "!"}, {"!!t", "", "!!t"}, {"!t\t&b", "b", "!t"}, {"&: !<u,v>", ":", "!<u,v>"}}

// gap writes what may stand between two parts, the first of which ends at end; in one row, or in several.
func (w *writer) gap(end int, row bool) (l loose) {
	w.one("", " ", "\t", " \t ")
	for !row && w.chance(3) {
		if w.chance(2) {
			w.out.WriteString(" ")
			if len(l.notes) == 0 {
				l.near = !strings.Contains(w.out.String()[end:], "\n")
			}
			w.count++
			c := api.Comment{Text: " c" + strconv.Itoa(w.count), Blank: above(w.out.String(), w.out.Len())}
			l.notes = append(l.notes, c)
			w.told = append(w.told, "#"+c.Text)
			w.out.WriteString("#" + c.Text)
			w.one("", " ", "\t ")
		}
		w.one("\n", "\n  ", "\n \n", "\n\n\t\n ")
	}
	return l
}

// node writes a node that contains at most that many collections one in the other. It returns its end, too; White may stand behind that.
func (w *writer) node(row bool, deep int) (node api.Node, end int) {
	node = api.Node{Kind: api.KScalar, Style: api.SPlain, At: w.out.Len()}
	bare := !w.chance(4)
	if !bare {
		p := properties[w.rand.IntN(len(properties))]
		node.Anchor, node.Tag = p.anchor, p.tag
		w.out.WriteString(p.s)
		end = w.out.Len()
		w.out.WriteString(" ")
		if w.chance(3) {
			return node, end
		}
		node.Lead = w.gap(end, row).notes
	}
	if deep > 0 && w.chance(3) {
		c := w.collection(row, deep)
		node.Kind, node.Style, node.Kids, node.Foot = c.Kind, c.Style, c.Kids, c.Foot
		return node, w.out.Len()
	}
	c := scalars[w.rand.IntN(len(scalars))]
	for row && strings.Contains(c.s, "\n") || !bare && c.kind == api.KAlias {
		c = scalars[w.rand.IntN(len(scalars))]
	}
	w.out.WriteString(c.s)
	end = w.out.Len()
	node.Kind, node.Style, node.Text = c.kind, c.style, c.text
	switch {
	case c.kind == api.KAlias:
		w.out.WriteString(" ") // a sign would be of its name
		w.told = append(w.told, "*"+c.text)
	case c.text != "":
		w.told = append(w.told, "="+c.text)
	}
	return node, end
}

// entry writes one of a collection: its comments ahead, its nodes, and, behind its end, the comments that none of them has.
func (w *writer) entry(seq, row bool, deep int) (lead []api.Comment, kids []api.Node, end int, behind loose) {
	key := api.Node{Kind: api.KScalar, Style: api.SPlain, At: -1}
	value := key
	query, named, signed := w.chance(4), !w.chance(6), w.chance(2)
	near := row || seq && !query // what stands behind the key must be in its row
	if query {
		w.out.WriteString("?")
		end = w.out.Len()
		w.one(" ", "\t")
		lead = w.gap(end, row).notes
	}
	if !query && !named {
		signed = true
	}
	var ahead loose
	if named {
		key, end = w.node(row || near && signed, deep)
		ahead = w.gap(end, row || near && signed)
	}
	if !signed {
		if seq && !query {
			return lead, []api.Node{key}, end, ahead
		}
		return lead, []api.Node{key, value}, end, ahead
	}
	w.out.WriteString(":")
	end = w.out.Len()
	if key.Kind == api.KScalar && key.Style == api.SPlain || key.Kind == api.KAlias || w.chance(2) {
		w.one(" ", "\t")
	}
	behind = w.gap(end, row)
	value.Lead = ahead.notes
	if w.chance(3) {
		return lead, []api.Node{key, value}, end, behind
	}
	value, end = w.node(row, deep)
	value.Lead = slices.Concat(ahead.notes, behind.notes, value.Lead)
	return lead, []api.Node{key, value}, end, w.gap(end, row)
}

// collection writes one in which at most that many contain one another.
func (w *writer) collection(row bool, deep int) api.Node {
	c := api.Node{Kind: api.KSeq, Style: api.SFlow, At: w.out.Len()}
	open, shut := "[", "]"
	if w.chance(2) {
		c.Kind, open, shut = api.KMap, "{", "}"
	}
	seq := c.Kind == api.KSeq
	w.out.WriteString(open)
	pending := w.gap(w.out.Len(), row).notes
	for comma := true; comma && !w.chance(4); {
		at := w.out.Len()
		lead, kids, end, behind := w.entry(seq, row, deep-1)
		if comma = !w.chance(4); comma {
			w.out.WriteString(",")
			behind = behind.and(w.gap(end, row))
		}
		if behind.near && len(behind.notes) > 0 {
			last := &kids[len(kids)-1]
			last.HasTrail, last.Trail = true, behind.notes[0].Text
			behind.notes = behind.notes[1:]
		}
		if seq && len(kids) == 2 {
			kids = []api.Node{{Kind: api.KMap, Style: api.SFlow, At: at, Kids: kids}}
		}
		kids[0].Lead = slices.Concat(pending, lead, kids[0].Lead)
		kids[0].Blank = above(w.out.String(), at)
		c.Kids = append(c.Kids, kids...)
		pending = behind.notes
	}
	c.Foot = pending
	w.out.WriteString(shut)
	return c
}

// 16.7 (W2, W3): collections that were written by the chapter's words are read as they were meant: with the same texts, in the same order, and each comment between the same ones.
func TestWritten(t *testing.T) {
	sizes := 0
	for seed := range uint64(30000) {
		w := &writer{rand: rand.New(rand.NewPCG(seed, 16))}
		w.one("", "a: ", "\n\n- ", "é")
		at := w.out.Len()
		node := w.collection(w.chance(5), 4)
		to := w.out.Len()
		w.one("", " # d", "]", ",", "\n\nb")
		s := w.out.String()
		got, end, e := flow.Read(s, at, -1, 0)
		if !same(got, node) || end != to || e != api.OK {
			t.Fatalf("Read(%q, %d, -1, 0) = %s, %v, %d, %d, want %s, %v, %d", s, at, show(got), places(got), end, e, show(node), places(node), to)
		}
		if all := told(got); !slices.Equal(all, w.told) {
			t.Fatalf("Read(%q, %d, -1, 0) tells %q, want %q", s, at, all, w.told)
		}
		checkAt(t, s, at, -1, 0)
		sizes += len(w.told)
	}
	if sizes < 30000 {
		t.Errorf("only %d texts and comments were written", sizes)
	}
}
