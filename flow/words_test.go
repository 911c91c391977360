package flow_test

import (
	"regexp"
	"slices"
	"strings"

	"bosket/api"
	"bosket/note"
	"bosket/plai"
	"bosket/prop"
	"bosket/quot"
)

// The chapter's words as a table of what may follow what, through which a text goes part by part; only when a collection is closed, its nodes are made of its parts, and comments are looked for between these.

// part is a part of a collection: a byte of its own ([ { ] } , ? :), & for properties, or for the content of a node * (an alias), " (in quotes), a (plain) or c (a collection). $ is the end of s, and - anything that begins nothing.
type part struct {
	kind        byte
	from, to    int
	anchor, tag string
	node        api.Node // a content, by itself
}

// frame is a collection that isn't closed yet.
type frame struct {
	deep  int    // how many collections contain it
	parts []part // its own, from its bracket on
	state string
	props bool // properties were read, and whatever follows them is to come
}

// follows tells what may follow in a state (within [ or {, where that matters), and which state is next; n is a node.
var follows = map[string]map[byte]string{
	"entry[": {'?': "query", ':': "value", 'n': "item", ']': "end"},
	"entry{": {'?': "query", ':': "value", 'n': "key", '}': "end"},
	"query":  {'n': "key", ':': "value", ',': "entry", ']': "end", '}': "end"},
	"item":   {':': "value", ',': "entry", ']': "end"},
	"key":    {':': "value", ',': "entry", ']': "end", '}': "end"},
	"value":  {'n': "done", ',': "entry", ']': "end", '}': "end"},
	"done":   {',': "entry", ']': "end", '}': "end"},
}

// The chapter's words for what ends a part (4.1), and for what a plain scalar begins with (11.1).
var (
	ended  = regexp.MustCompile(`\A(?:[ \t\n]|\z)`)
	signed = regexp.MustCompile(`\A:(?:[ \t\n,\[\]{}]|\z)`)
	plain  = regexp.MustCompile("\\A(?:[^ \t\n\\-?:,\\[\\]{}#&*!|>'\"%@`]|[\\-?:][^ \t\n,\\[\\]{}])")
	remark = regexp.MustCompile(`#[^\n]*`)
)

// kindAt tells what part begins at at, behind a part of that kind.
func kindAt(s string, at int, behind byte) byte {
	if at < 0 || at >= len(s) {
		return '$'
	}
	switch c := s[at]; c {
	case ',', '[', ']', '{', '}', '*', '&', '"':
		return c
	case '!':
		return '&'
	case '\'':
		return '"'
	case '?':
		if ended.MatchString(s[at+1:]) {
			return '?'
		}
	case ':':
		if behind == '"' || behind == 'c' || signed.MatchString(s[at:]) {
			return ':'
		}
	}
	if plain.MatchString(s[at:]) {
		return 'a'
	}
	return '-'
}

// next tells the state behind a part of that kind, or that none may stand there.
func (f *frame) next(kind byte) (string, bool) {
	state := f.state
	if state == "entry" {
		state += string(f.parts[0].kind)
	}
	if strings.IndexByte("&*\"a[{", kind) >= 0 {
		kind = 'n'
	}
	if kind == ']' && f.parts[0].kind == '{' || kind == '}' && f.parts[0].kind == '[' {
		return "", false
	}
	to, ok := follows[state][kind]
	return to, ok
}

// entry returns the parts of the entry that isn't at its end yet.
func (f *frame) entry() []part {
	from := 0
	for i, p := range f.parts {
		if p.kind == ',' {
			from = i
		}
	}
	return f.parts[from+1:]
}

// paired reports whether that entry is a pair, as far as it is known.
func (f *frame) paired() bool {
	return f.parts[0].kind == '[' && slices.ContainsFunc(f.entry(), func(p part) bool { return p.kind == '?' || p.kind == ':' })
}

// within returns how many collections contain what stands in that entry.
func (f *frame) within() int {
	if f.paired() {
		return f.deep + 2
	}
	return f.deep + 1
}

// tooDeep reports whether something in a key that begins at at is contained in too many collections, if that many contain the key.
func tooDeep(s string, at, to, n, deep int) bool {
	collections := 0
	for i := at; i < to; i++ {
		if strings.IndexByte("[{:?", s[i]) >= 0 {
			collections++
		}
	}
	if deep+collections <= api.MaxDeep {
		return false // a quick answer: there are no more than these
	}
	_, _, e := want(s, at, n, deep)
	return e == api.ErrDeep
}

// pairs tells what is wrong with the ? or the sign p, and where, if it makes a pair of the entry, or should.
func (f *frame) pairs(s string, p part, n int) (int, api.Errno) {
	if f.parts[0].kind == '{' || f.paired() {
		return 0, api.OK
	}
	first := f.entry()
	start := slices.Concat(first, []part{p})[0].from
	key := slices.IndexFunc(first, func(p part) bool { return p.kind == 'c' })
	switch {
	case strings.Contains(s[start:p.from], "\n"):
		return p.from, api.ErrForm
	case f.within() >= api.MaxDeep, key >= 0 && tooDeep(s, first[key].from, p.from, n, f.within()+1):
		return start, api.ErrDeep
	}
	return 0, api.OK
}

// read reads properties, an alias or a scalar, by its package.
func (p *part) read(s string, n int) (e api.Errno) {
	switch p.kind {
	case '&':
		p.anchor, p.tag, p.to, e = prop.Read(s, p.from, true)
	case '*':
		p.node.Kind, p.node.Style = api.KAlias, 0
		p.node.Text, p.to, e = prop.Alias(s, p.from)
	case '"':
		p.node.Style = map[byte]int{'\'': api.SSingle, '"': api.SDouble}[s[p.from]]
		p.node.Text, p.to, _, e = quot.Read(s, p.from, n)
	case 'a':
		p.node.Text, p.to, _, e = plai.Read(s, p.from, n, true)
	}
	return e
}

// want works Read out from the chapter's words.
func want(s string, at, n, deep int) (api.Node, int, api.Errno) {
	deep = max(deep, 0)
	kind := kindAt(s, at, 0)
	switch {
	case kind != '[' && kind != '{':
		return api.Node{}, at, api.ErrForm
	case deep >= api.MaxDeep:
		return api.Node{}, at, api.ErrDeep
	}
	stack := []*frame{{deep: deep, parts: []part{{kind: kind, from: at, to: at + 1}}, state: "entry"}}
	for to := at + 1; ; {
		f := stack[len(stack)-1]
		_, _, from, e := note.Within(s, to, n)
		if e != api.OK {
			return api.Node{}, from, e
		}
		kind := kindAt(s, from, f.parts[len(f.parts)-1].kind)
		if f.props && strings.IndexByte("\"a[{", kind) < 0 {
			// The node has no content, and what follows, follows the node.
			f.state, _ = f.next('&')
			f.props = false
		}
		state, ok := f.next(kind)
		if !ok {
			return api.Node{}, from, api.ErrForm
		}
		p := part{kind: kind, from: from, to: from + 1, node: api.Node{Kind: api.KScalar, Style: api.SPlain, At: from}}
		switch kind {
		case ']', '}':
			f.parts = append(f.parts, p)
			node := build(s, f.parts)
			if stack = stack[:len(stack)-1]; len(stack) == 0 {
				return node, from + 1, api.OK
			}
			f = stack[len(stack)-1]
			state, _ = f.next('[')
			p = part{kind: 'c', from: node.At, to: from + 1, node: node}
		case '[', '{':
			if f.within() >= api.MaxDeep {
				return api.Node{}, from, api.ErrDeep
			}
			stack = append(stack, &frame{deep: f.within(), parts: []part{p}, state: "entry"})
			to = from + 1
			continue
		case '?', ':':
			if wrong, e := f.pairs(s, p, n); e != api.OK {
				return api.Node{}, wrong, e
			}
		default:
			if e := p.read(s, n); e != api.OK {
				return api.Node{}, p.to, e
			}
		}
		f.parts = append(f.parts, p)
		if f.props = kind == '&'; !f.props {
			f.state = state
		}
		to = p.to
	}
}

// between returns the comments between two offsets with nothing but those, White and line feeds between, and where the first of them is.
func between(s string, from, to int) (notes []api.Comment, first int) {
	for _, found := range remark.FindAllStringIndex(s[from:to], -1) {
		at := from + found[0]
		if len(notes) == 0 {
			first = at
		}
		notes = append(notes, api.Comment{Text: strings.TrimRight(s[at+1:from+found[1]], " \t"), Blank: above(s, at)})
	}
	return notes, first
}

// above works out how many blank rows stand directly above the row of at, if that has White alone ahead of at.
func above(s string, at int) (n int) {
	all := strings.Split(s[:at], "\n")
	for i := len(all) - 1; i >= 0 && strings.Trim(all[i], " \t") == ""; i-- {
		n++
	}
	return max(n-1, 0)
}

// build makes the node of a collection of its parts, from its bracket to the other one.
func build(s string, parts []part) api.Node {
	c := api.Node{Kind: api.KSeq, Style: api.SFlow, At: parts[0].from}
	if parts[0].kind == '{' {
		c.Kind = api.KMap
	}
	lead, _ := between(s, parts[0].to, parts[1].from)
	for i := 1; i < len(parts)-1; {
		end := i // the comma behind the entry, or the bracket
		for end < len(parts)-1 && parts[end].kind != ',' {
			end++
		}
		all := parts[i : end+1]
		last := all[len(all)-2]
		kids, after := nodes(s, all, c.Kind)
		kids[0].Blank = above(s, all[0].from)
		if c.Kind == api.KSeq && len(kids) == 2 {
			pair := api.Node{Kind: api.KMap, Style: api.SFlow, At: all[0].from, Blank: kids[0].Blank, Kids: kids}
			kids[0].Blank = 0
			pair.Lead = slices.Concat(lead, after)
			c.Kids = append(c.Kids, pair)
		} else {
			kids[0].Lead = slices.Concat(lead, after, kids[0].Lead)
			c.Kids = append(c.Kids, kids...)
		}
		lead = nil
		var first int
		if last.kind != '?' { // else what stands ahead of the comma was told already
			lead, first = between(s, last.to, all[len(all)-1].from)
		}
		if end < len(parts)-1 {
			others, from := between(s, parts[end].to, parts[end+1].from)
			if len(lead) == 0 {
				first = from
			}
			lead = append(lead, others...)
			end++
		}
		if len(lead) > 0 && !strings.Contains(s[last.to:first], "\n") {
			node := &kids[len(kids)-1]
			if len(kids) == 1 || c.Kind == api.KMap {
				node = &c.Kids[len(c.Kids)-1]
			}
			node.HasTrail, node.Trail = true, lead[0].Text
			lead = lead[1:]
		}
		i = end
	}
	c.Foot = lead
	return c
}

// nodes makes the nodes of an entry of a collection of that kind, without the comments ahead of it and behind; its last part is what follows it. It returns those behind its ?, too.
func nodes(s string, parts []part, kind int) (kids []api.Node, after []api.Comment) {
	query := parts[0].kind == '?'
	if query {
		after, _ = between(s, parts[0].to, parts[1].from)
		parts = parts[1:]
	}
	sign := slices.IndexFunc(parts, func(p part) bool { return p.kind == ':' })
	if sign < 0 {
		kids = []api.Node{one(s, parts[:len(parts)-1])}
		if query || kind == api.KMap {
			kids = append(kids, one(s, nil))
		}
		return kids, after
	}
	key, value := one(s, parts[:sign]), one(s, parts[sign+1:len(parts)-1])
	var ahead, behind []api.Comment
	if sign > 0 {
		ahead, _ = between(s, parts[sign-1].to, parts[sign].from)
	}
	if sign+1 < len(parts)-1 {
		behind, _ = between(s, parts[sign].to, parts[sign+1].from)
	}
	value.Lead = slices.Concat(ahead, behind, value.Lead)
	return []api.Node{key, value}, after
}

// one makes the node of its parts: properties, a content, both or neither.
func one(s string, parts []part) api.Node {
	node := api.Node{Kind: api.KScalar, Style: api.SPlain, At: -1}
	if len(parts) == 0 {
		return node
	}
	if last := parts[len(parts)-1]; last.kind != '&' {
		node = last.node
	}
	if first := parts[0]; first.kind == '&' {
		node.At, node.Anchor, node.Tag = first.from, first.anchor, first.tag
		if len(parts) == 2 {
			node.Lead, _ = between(s, first.to, parts[1].from)
		}
	}
	return node
}
