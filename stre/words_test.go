package stre_test

import (
	"regexp"
	"slices"
	"strings"

	"bosket/api"
	"bosket/dire"
	"bosket/tree"
)

// The chapter's words as a machine that goes from row to row: each of them is of one kind by an expression, and a comment is told by its own row and by how many blank ones came right ahead of it.

var (
	blanks  = regexp.MustCompile(`\A[ \t]*\z`)
	remarks = regexp.MustCompile(`\A[ \t]*#(.*?)[ \t]*\z`)
	marks   = regexp.MustCompile(`\A---(?:[ \t]|\z)`)
	points  = regexp.MustCompile(`\A\.\.\.(?:[ \t]|\z)`)
	inner   = regexp.MustCompile(`\A[ \t]*`)
)

// machine goes through a stream.
type machine struct {
	s      string
	at     int           // where the row begins
	from   int           // where the row behind the last part begins
	above  int           // how many blank rows stand directly above
	notes  []api.Comment // those in the rows from there on
	doc    api.Doc
	stream api.Stream
}

// wrong is what ends a machine.
type wrong struct {
	at   int
	code api.Errno
}

// want works Parse out from the chapter's words.
func want(s string) (api.Stream, int, api.Errno) {
	m := &machine{s: s}
	for m.at < len(s) {
		row, _, _ := strings.Cut(s[m.at:], "\n")
		if no := m.row(row); no != nil {
			return api.Stream{}, no.at, no.code
		}
	}
	if len(m.doc.Dirs) > 0 {
		return api.Stream{}, len(s), api.ErrForm
	}
	m.stream.Tail = append(m.doc.Head, m.notes...)
	return m.stream, 0, api.OK
}

// row goes through one row, or through the rows of a document.
func (m *machine) row(row string) *wrong {
	white := len(inner.FindString(row))
	switch {
	case blanks.MatchString(row):
		m.above++
		m.at = min(m.at+len(row)+1, len(m.s))
		return nil
	case remarks.MatchString(row):
		m.notes = append(m.notes, api.Comment{Text: remarks.FindStringSubmatch(row)[1], Blank: m.above})
		m.above = 0
		m.at = min(m.at+len(row)+1, len(m.s))
		return nil
	case row[0] == '%':
		dir, text, has, e := dire.Read(row)
		if e != api.OK || dire.Twice(m.doc.Dirs, dir) {
			return &wrong{m.at, api.ErrForm}
		}
		m.part(len(row), text, has)
		m.doc.Dirs = append(m.doc.Dirs, dir)
		return nil
	case marks.MatchString(row):
		m.doc.Head, m.doc.Mark = slices.Concat(m.doc.Head, m.notes), true
		return m.root(m.at+3, true)
	case strings.Contains(row[:white], "\t"):
		return &wrong{m.at + strings.IndexByte(row, '\t'), api.ErrTab}
	case len(m.doc.Dirs) > 0:
		return &wrong{m.at + white, api.ErrForm}
	case points.MatchString(row):
		rest := row[3:]
		white = 3 + len(inner.FindString(rest))
		note := remarks.FindStringSubmatch(rest)
		if note == nil && white < len(row) {
			return &wrong{m.at + white, api.ErrForm}
		}
		m.part(len(row), strings.Join(append(note, "", "")[1:2], ""), note != nil)
		return nil
	}
	return m.root(m.from, false)
}

// part makes a row of so many bytes one of a directive or of dots, with its comment.
func (m *machine) part(size int, text string, has bool) {
	m.doc.Head = slices.Concat(m.doc.Head, m.notes)
	if has {
		m.doc.Head = append(m.doc.Head, api.Comment{Text: text})
	}
	m.at = min(m.at+size+1, len(m.s))
	m.from, m.above, m.notes = m.at, 0, nil
}

// root goes through the rows of a document whose root is read from a place on.
func (m *machine) root(from int, mark bool) *wrong {
	root, foot, to, e := tree.Read(m.s, from, mark)
	if e != api.OK {
		return &wrong{to, e}
	}
	m.doc.Root, m.doc.Foot = root, foot
	m.stream.Docs = append(m.stream.Docs, m.doc)
	m.doc = api.Doc{}
	m.at, m.from, m.above, m.notes = to, to, 0, nil
	return nil
}
