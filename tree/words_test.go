package tree_test

import (
	"regexp"
	"slices"
	"strings"

	"bosket/api"
	"bosket/bloc"
	"bosket/flow"
	"bosket/note"
	"bosket/plai"
	"bosket/prop"
	"bosket/quot"
)

// The chapter's words as a machine with a stack of columns, which tells the parts of a document one behind the other; only then, from what stands between two parts, are comments given to nodes.

// The chapter's words for what a key may consist of (4.1, 5.1, 11.1, 11.2, 12.1, 14.2, 17.1).
var (
	ended  = regexp.MustCompile(`\A(?:[ \t\n]|\z)`)
	marked = regexp.MustCompile(`\A(?:---|\.\.\.)(?:[ \t\n]|\z)`)
	plain  = regexp.MustCompile("\\A(?:[^ \t\n\\-?:,\\[\\]{}#&*!|>'\"%@`]|[\\-?:][^ \t\n])")
	stops  = regexp.MustCompile(`[ \t]#|:(?:[ \t]|\z)`)
	alias  = regexp.MustCompile(`\A\*[^ \t\n,\[\]{}]+`)
	single = regexp.MustCompile(`\A'(?:[^'\n]|'')*'`)
	double = regexp.MustCompile(`\A"(?:[^"\\\n]|\\(?:[0abtnvfre\t "/\\N_LP]|x` + digit + `{2}|u` + unit + `|U0000` + unit + `|U(?:000[1-9a-fA-F]|0010)` + digit + `{4}))*"`)
	signs  = regexp.MustCompile(`\A[ \t]*:(?:[ \t]|\z)`)
	remark = regexp.MustCompile(`#[^\n]*`)
	inner  = regexp.MustCompile(`\A[ \t]*`)
)

const (
	digit = `[0-9a-fA-F]`
	unit  = `(?:[0-9a-ceA-CEfF]` + digit + `{3}|[dD][0-7]` + digit + `{2})`
)

// wantKey works Key out from the chapter's words.
func wantKey(s string, at int) (int, bool) {
	if at < 0 || at >= len(s) {
		return 0, false
	}
	row, _, _ := strings.Cut(s[at:], "\n")
	_, _, to, e := prop.Read(s, at, false)
	if e != api.OK {
		return 0, false
	}
	from := to - at
	from += len(inner.FindString(row[from:]))
	rest := row[from:]
	end := 0
	switch {
	case alias.MatchString(rest):
		if to > at {
			return 0, false
		}
		end = len(alias.FindString(rest))
	case strings.HasPrefix(rest, "'"):
		end = len(single.FindString(rest))
		if end == 0 || strings.HasPrefix(rest[end:], "'") {
			return 0, false
		}
	case strings.HasPrefix(rest, `"`):
		if end = len(double.FindString(rest)); end == 0 {
			return 0, false
		}
	case strings.HasPrefix(rest, "["), strings.HasPrefix(rest, "{"):
		_, behind, e := flow.Read(s, at+from, -1, 0)
		if end = behind - at - from; e != api.OK || end > len(rest) {
			return 0, false
		}
	case plain.MatchString(rest):
		stop := stops.FindStringIndex(rest)
		if stop == nil || rest[stop[0]] != ':' {
			return 0, false
		}
		end = stop[0]
	}
	colon := signs.FindString(rest[end:])
	if colon == "" {
		return 0, false
	}
	return at + from + end + strings.IndexByte(colon, ':'), true
}

// branch is a node that is being made.
type branch struct {
	node  api.Node
	kids  []*branch
	empty bool
	key   bool    // it stands behind a query
	value *branch // that of this key
}

// part is a part of a document: s (where one begins), = (---), - ? (a dash, a query), : (the colon of a query), k (that of a key), i (where an implicit key begins), & (properties), c (a content), b (a block scalar) or $ (the end). What stands behind an indicator, and what any other part belongs to, is its branch.
type part struct {
	kind     byte
	from, to int
	of       *branch
}

// open is a block collection that isn't at its end.
type open struct {
	*branch
	col   int
	asked *branch // the key behind the last query, as long as its colon may follow
}

// machine goes through a document.
type machine struct {
	s      string
	parts  []part
	stack  []open
	behind byte // the indicator ahead of the node
	at     int  // where the last part ends
}

// wrong is what ends a machine.
type wrong struct {
	at   int
	code api.Errno
}

func (m *machine) add(kind byte, from, to int, of *branch) {
	m.parts = append(m.parts, part{kind, from, to, of})
	m.at = to
}

func (m *machine) column(at int) int {
	return at - strings.LastIndexByte("\n"+m.s[:at], '\n')
}

// n is the column of the block collection around.
func (m *machine) n() int {
	if len(m.stack) == 0 {
		return -1
	}
	return m.stack[len(m.stack)-1].col
}

// found tells what begins at at: $ - ? k & or c, or : for a colon that may be that of a query.
func (m *machine) found(at int) byte {
	switch {
	case at == len(m.s), m.column(at) == 0 && marked.MatchString(m.s[at:]):
		return '$'
	case strings.IndexByte("-?:", m.s[at]) >= 0 && ended.MatchString(m.s[at+1:]):
		return m.s[at]
	}
	if _, ok := wantKey(m.s, at); ok {
		return 'k'
	}
	if strings.IndexByte("&!", m.s[at]) >= 0 {
		return '&'
	}
	return 'c'
}

func empty() *branch {
	return &branch{node: api.Node{Kind: api.KScalar, Style: api.SPlain, At: -1}, empty: true}
}

// skip returns where what follows the last part begins, and whether that is in a later row.
func (m *machine) skip() (to int, later bool, no *wrong) {
	_, _, to, e := note.Skip(m.s, m.at)
	if e != api.OK {
		return 0, false, &wrong{to, e}
	}
	return to, strings.Contains(m.s[m.at:to], "\n"), nil
}

// body goes through the node of b, or through its beginning if it is a collection, behind which it returns false, since a node follows.
func (m *machine) body(b *branch) (done bool, no *wrong) {
	props := false
	for {
		to, later, no := m.skip()
		if no != nil {
			return false, no
		}
		kind, col := m.found(to), m.column(to)
		if kind == '$' || later && (col < m.n() || col == m.n() && (kind != '-' || m.behind == '-')) {
			return true, nil
		}
		b.empty = false
		switch beside := m.behind != 's' && !later; {
		case props && !later:
			return true, m.content(b, to, true)
		case strings.IndexByte("-?:k", kind) >= 0:
			if beside && (m.behind == '=' || m.behind == 'k') {
				return false, &wrong{to, api.ErrForm}
			}
			if tab := strings.IndexByte(m.s[m.at:to], '\t'); beside && tab >= 0 {
				return false, &wrong{m.at + tab, api.ErrTab}
			}
			return false, m.enter(b, to, kind)
		case kind == '&' && !props:
			b.node.At = to
			var e api.Errno
			if b.node.Anchor, b.node.Tag, to, e = prop.Read(m.s, to, false); e != api.OK {
				return false, &wrong{to, e}
			}
			m.add('&', b.node.At, to, b)
			props, b.empty = true, true
		default:
			return true, m.content(b, to, props)
		}
	}
}

// content goes through the content of b, which begins at at.
func (m *machine) content(b *branch, at int, props bool) *wrong {
	node, to, e := api.Node{Kind: api.KScalar, Style: api.SPlain, At: at}, at, api.OK
	kind := byte('c')
	switch c := m.s[at]; c {
	case '*':
		node.Kind, node.Style = api.KAlias, 0
		if node.Text, to, e = prop.Alias(m.s, at); props {
			to, e = at, api.ErrForm
		}
	case '"', '\'':
		node.Style = map[byte]int{'\'': api.SSingle, '"': api.SDouble}[c]
		node.Text, to, _, e = quot.Read(m.s, at, m.n())
	case '[', '{':
		node, to, e = flow.Read(m.s, at, m.n(), len(m.stack))
	case '|', '>':
		node, to, e = bloc.Read(m.s, at, m.n())
		kind = 'b'
	default:
		node.Text, to, _, e = plai.Read(m.s, at, m.n(), false)
	}
	if e != api.OK {
		return &wrong{to, e}
	}
	if props {
		node.At, node.Anchor, node.Tag = b.node.At, b.node.Anchor, b.node.Tag
	}
	node.Blank = b.node.Blank
	b.node = node
	m.add(kind, at, to, b)
	if kind == 'b' {
		return nil
	}
	next, later, no := m.skip()
	if no == nil && !later && next < len(m.s) {
		no = &wrong{next, api.ErrForm}
	}
	return no
}

// enter makes b the block collection that begins at at.
func (m *machine) enter(b *branch, at int, kind byte) *wrong {
	if len(m.stack) >= api.MaxDeep {
		return &wrong{at, api.ErrDeep}
	}
	b.node.Kind, b.node.Style = api.KMap, api.SBlock
	if kind == '-' {
		b.node.Kind = api.KSeq
	}
	if b.node.At < 0 {
		b.node.At = at
	}
	m.stack = append(m.stack, open{branch: b, col: m.column(at)})
	return m.entry(at, kind)
}

// entry goes through the beginning of an entry of the collection on top of the stack, up to an indicator.
func (m *machine) entry(at int, kind byte) *wrong {
	top := &m.stack[len(m.stack)-1]
	first := empty()
	first.node.Blank = above(m.s, at)
	top.kids = append(top.kids, first)
	switch kind {
	case '-':
		m.behind = '-'
		m.add('-', at, at+1, first)
		return nil
	case '?':
		first.key = true
		first.value = empty()
		top.kids = append(top.kids, first.value)
		top.asked = first
		m.behind = '?'
		m.add('?', at, at+1, first)
		return nil
	}
	m.add('i', at, at, first)
	colon, _ := wantKey(m.s, at)
	anchor, tag, to, _ := prop.Read(m.s, at, false)
	if to > at {
		first.node.At, first.node.Anchor, first.node.Tag = at, anchor, tag
		m.add('&', at, to, first)
	}
	if from := to + len(inner.FindString(m.s[to:])); from < colon {
		first.empty = false
		if no := m.contentOfKey(first, from, to > at); no != nil {
			return no
		}
	}
	value := empty()
	top.kids = append(top.kids, value)
	m.behind = 'k'
	m.add('k', colon, colon+1, value)
	return nil
}

func (m *machine) contentOfKey(b *branch, from int, props bool) *wrong {
	no := m.content(b, from, props)
	if no != nil && m.parts[len(m.parts)-1].kind == 'c' {
		return nil // its colon is what follows it in its row
	}
	return no
}

// behindNode goes on behind a node, and reports whether the document is at its end there.
func (m *machine) behindNode() (done bool, no *wrong) {
	to, _, no := m.skip()
	if no != nil {
		return false, no
	}
	kind, col := m.found(to), m.column(to)
	for len(m.stack) > 0 {
		top := &m.stack[len(m.stack)-1]
		asked := top.asked
		top.asked = nil
		switch {
		case asked != nil && kind == ':' && col == top.col:
			m.behind = ':'
			m.add(':', to, to+1, asked.value)
			return false, nil
		case kind == '$' || col < top.col, col == top.col && kind != '-' && top.node.Kind == api.KSeq:
			m.stack = m.stack[:len(m.stack)-1]
		case col == top.col && (kind == '-') == (top.node.Kind == api.KSeq) && kind != 'c' && kind != '&':
			return false, m.entry(to, kind)
		default:
			return false, &wrong{to, api.ErrForm}
		}
	}
	if kind != '$' {
		return false, &wrong{to, api.ErrForm}
	}
	m.add('$', to, to, nil)
	return true, nil
}

// run goes through the whole document.
func (m *machine) run() *wrong {
	for {
		done, no := m.body(m.parts[len(m.parts)-1].of)
		if no != nil {
			return no
		}
		if !done {
			continue
		}
		if done, no = m.behindNode(); done || no != nil {
			return no
		}
	}
}

// want works Read out from the chapter's words.
func want(s string, at int, beside bool) (api.Node, []api.Comment, int, api.Errno) {
	at = min(max(at, 0), len(s))
	m := &machine{s: s, behind: 's'}
	if beside {
		m.behind = '='
	}
	root := empty()
	m.add(m.behind, at, at, root)
	if no := m.run(); no != nil {
		return api.Node{}, nil, no.at, no.code
	}
	var rest []api.Comment
	for i, p := range m.parts[:len(m.parts)-1] {
		p.assign(s, m.parts[i+1], &rest)
	}
	return root.whole(), rest, m.at, api.OK
}

// assign gives the comments between p and next, the part behind it, to the nodes that they belong to.
func (p part) assign(s string, next part, rest *[]api.Comment) {
	notes, near := between(s, p.to, next.from)
	b := p.of
	trail := func(text string) {
		if b.key {
			b.value.node.Lead = append(b.value.node.Lead, api.Comment{Text: text})
		} else {
			b.node.HasTrail, b.node.Trail = true, text
		}
	}
	switch {
	case p.kind == 'b':
		if text := b.node.Trail; b.node.HasTrail && b.key {
			b.node.HasTrail, b.node.Trail = false, ""
			trail(text)
		}
	case p.kind == 'c' && near:
		trail(notes[0].Text)
		notes = notes[1:]
	case p.kind == 'c':
	case !b.empty || next.kind == '&' && next.of == b:
		b.node.Lead = append(b.node.Lead, notes...)
		return
	case near && p.kind != 's' && !b.key:
		trail(notes[0].Text)
		notes = notes[1:]
	}
	if next.of == nil {
		*rest = append(*rest, notes...)
		return
	}
	next.of.node.Lead = append(next.of.node.Lead, notes...)
}

// between returns the comments between two offsets with nothing but those, White and line feeds between, and whether the first of them is in the row where it begins.
func between(s string, from, to int) (notes []api.Comment, near bool) {
	for _, found := range remark.FindAllStringIndex(s[from:to], -1) {
		at := from + found[0]
		if len(notes) == 0 {
			near = !strings.Contains(s[from:at], "\n") && from > 0 && s[from-1] != '\n'
		}
		notes = append(notes, api.Comment{Text: strings.TrimRight(s[at+1:from+found[1]], " \t"), Blank: above(s, at)})
	}
	return notes, near
}

// above works out how many blank rows stand directly above the row of at, if that has White alone ahead of at.
func above(s string, at int) (n int) {
	all := strings.Split(s[:at], "\n")
	for i := len(all) - 1; i >= 0 && strings.Trim(all[i], " \t") == ""; i-- {
		n++
	}
	return max(n-1, 0)
}

// whole returns the node of a branch, with all that is in it.
func (b *branch) whole() api.Node {
	node := b.node
	node.Kids = slices.Clone(node.Kids)
	for _, kid := range b.kids {
		node.Kids = append(node.Kids, kid.whole())
	}
	return node
}
