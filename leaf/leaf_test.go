package leaf_test

import (
	"fmt"
	"reflect"
	"slices"
	"strconv"
	"strings"
	"testing"
	"unsafe"

	"bosket/api"
	"bosket/leaf"
	"bosket/stre"
)

// streams are texts, what Row tells of them (with | between), and whether a comment stands within a key.
var streams = []struct {
	s, row string
	inner  bool
}{
	// the chapter's example
	{"a: b # c", "=a|=b|# c", false},
	// nothing, texts and aliases alone
	{"", "", false}, {"---", "", false}, {"...", "", false}, {"''", "", false}, {"[]", "", false}, {"{}", "", false}, {"- ", "", false}, {":", "", false}, {"&a !b", "", false}, {"a", "=a", false}, {"'a b'", "=a b", false}, {`"\n"`, "=\n", false}, {"|\n a\n", "=a\n", false}, {">-\n a\n b\n", "=a b", false}, {"*a", "*a", false}, {"&a !b c", "=c", false}, {"'#a'", "=#a", false}, {"'*a'", "=*a", false}, {"==", "===", false}, {"é", "=é", false},
	// collections
	{"- a\n- \n- *b\n- ''\n- - c\n- d", "=a|*b|=c|=d", false}, {"a: b\nc:\n: d\n? e", "=a|=b|=c|=d|=e", false}, {"[a, b: c, {d: e, f, : g}]", "=a|=b|=c|=d|=e|=f|=g", false}, {"? - a\n  - b: c\n: - d\n  - e", "=a|=b|=c|=d|=e", false},
	// comments of a document
	{"#", "#", false}, {"# a\n#b", "# a|#b", false}, {"#a\n--- #b\nc #d\n#e\n... #f\n#g", "#a|#b|=c|#d|#e|#f|#g", false}, {"#a\n%b c #d\n---", "#a|#d", false}, {"a\n#b\n--- #c\n--- d\n...\n#e\nf", "=a|#b|#c|=d|#e|=f", false}, {"--- *a #b\n--- *c", "*a|#b|*c", false},
	// comments of collections
	{"#a\n- #b\n  c #d\n#e\n- f\n#g", "#a|#b|=c|#d|#e|=f|#g", false}, {"#a\nb: #c\n  d #e\n#f\ng: h #i\n#j", "#a|=b|#c|=d|#e|#f|=g|=h|#i|#j", false}, {"[ #a\n]", "#a", false}, {"[ #a\n#b\n c #d\n #e\n , #f\n #g\n h #i\n #j\n] #k\n#l", "#a|#b|=c|#d|#e|#f|#g|=h|#i|#j|#k|#l", false}, {"{ #a\n b #c\n : #d\n e #f\n #g\n} #h", "#a|=b|#c|#d|=e|#f|#g|#h", false}, {"- | #a\n b\n#c\n- > #d\n e\n", "=b\n|#a|#c|=e\n|#d", false}, {"a: &b #c\n  d", "=a|#c|=d", false},
	// comments ahead of keys, and behind them
	{"#a\n? #b\n  c #d\n#e\n: #f\n  g", "#a|#b|=c|#d|#e|#f|=g", false}, {"a: b\n#c\nd: e", "=a|=b|#c|=d|=e", false}, {"? #a\n  - b\n: c", "#a|=b|=c", false}, {"? - a\n  #b\n: c", "=a|#b|=c", false}, {"{ #a\n ? #b\n c #d\n : e}", "#a|#b|=c|#d|=e", false}, {"? #a", "#a", false}, {"? [a] #b\n: c", "=a|#b|=c", false}, {"? &a #b\n  c", "#b|=c", false}, {"a:\n - b: c\n   #d\n   e: f", "=a|=b|=c|#d|=e|=f", false},
	// comments within them
	{"? - a #b\n: c", "=a|#b|=c", true}, {"? - a\n  #b\n  - c\n: d", "=a|#b|=c|=d", true}, {"? - #a\n    b\n: c", "#a|=b|=c", true}, {"? [a, #b\n  c]\n: d", "=a|#b|=c|=d", true}, {"? [ #a\n  b]\n: c", "#a|=b|=c", true}, {"? [a\n  #b\n  ]\n: c", "=a|#b|=c", true}, {"? [ #a\n  ]", "#a", true}, {"? a: b #c\n: d", "=a|=b|#c|=d", true}, {"? a: b\n  #c\n  d: e", "=a|=b|#c|=d|=e", true}, {"? ? #a\n    b\n  : c\n: d", "#a|=b|=c|=d", true}, {"? | #a\n  b\n: c", "=b\n|#a|=c", false}, {"? - | #a\n    b\n: c", "=b\n|#a|=c", true}, {"{[a #b\n ]: c}", "=a|#b|=c", true}, {"[? [a #b\n ] : c]", "=a|#b|=c", true}, {"[? {a: #b\n c}]", "=a|#b|=c", true},
	// within keys further in
	{"- a:\n  - ? - b #c\n    : d", "=a|=b|#c|=d", true}, {"a: [{? [b #c\n ]}]", "=a|=b|#c", true}, {"? - ? - a\n      #b\n    : c\n: d", "=a|#b|=c|=d", true}, {"--- a #b\n--- [c]\n---\n? [d #e\n  ]\n--- f", "=a|#b|=c|=d|#e|=f", true},
}

// filter returns those strings of a row that are of comments.
func filter(row []string) (notes []string) {
	for _, s := range row {
		if strings.HasPrefix(s, "#") {
			notes = append(notes, s)
		}
	}
	return notes
}

// wrong tells what the three calls answer that is not to be told of a stream, or nothing.
func wrong(st api.Stream, row []string, inner bool) string {
	if got := leaf.Row(st); !slices.Equal(got, row) {
		return fmt.Sprintf("Row = %q, want %q", got, row)
	}
	if got, want := leaf.Notes(st), filter(row); !slices.Equal(got, want) {
		return fmt.Sprintf("Notes = %q, want %q", got, want)
	}
	if got := leaf.Inner(st); got != inner {
		return fmt.Sprintf("Inner = %v, want %v", got, inner)
	}
	return ""
}

// check holds the three calls against what is to be told of a stream.
func check(t *testing.T, name string, st api.Stream, row []string, inner bool) {
	t.Helper()
	if s := wrong(st, row, inner); s != "" {
		t.Fatalf("of %s: %.3000s", name, s)
	}
}

// 19.1, 19.2, 19.3 (W3): what is told of streams that were read.
func TestStreams(t *testing.T) {
	for _, c := range streams {
		st, at, e := stre.Parse(c.s)
		if e != api.OK {
			t.Fatalf("Parse(%q) = %d, %d", c.s, at, e)
		}
		var row []string
		if c.row != "" {
			row = strings.Split(c.row, "|")
		}
		check(t, strconv.Quote(c.s), st, row, c.inner)
		sameAsWords(t, st)
	}
}

func comments(l ...string) (notes []api.Comment) {
	for _, s := range l {
		notes = append(notes, api.Comment{Text: s})
	}
	return notes
}

func scalar(s string) api.Node { return api.Node{Kind: api.KScalar, Text: s} }

func alias(s string) api.Node { return api.Node{Kind: api.KAlias, Text: s} }

func sequence(l ...api.Node) api.Node { return api.Node{Kind: api.KSeq, Kids: l} }

func mapping(l ...api.Node) api.Node { return api.Node{Kind: api.KMap, Kids: l} }

func lead(n api.Node, l ...string) api.Node {
	n.Lead = comments(l...)
	return n
}

func foot(n api.Node, l ...string) api.Node {
	n.Foot = comments(l...)
	return n
}

func trail(n api.Node, s string) api.Node {
	n.HasTrail, n.Trail = true, s
	return n
}

func kind(k int, n api.Node) api.Node {
	n.Kind = k
	return n
}

// nodes are such as are read, and such as never are, with what is told of them.
var nodes = []struct {
	n     api.Node
	row   []string
	inner bool
}{
	// nodes alone
	{api.Node{}, nil, false}, {scalar(""), nil, false}, {scalar("a"), []string{"=a"}, false}, {scalar(" "), []string{"= "}, false}, {scalar("\x00\xff"), []string{"=\x00\xff"}, false}, {alias(""), []string{"*"}, false}, {alias("a"), []string{"*a"}, false}, {sequence(), nil, false}, {mapping(), nil, false},
	// only a KScalar and a KAlias have a Text that is told
	{api.Node{Text: "a"}, nil, false}, {kind(api.KSeq, scalar("a")), nil, false}, {kind(api.KMap, scalar("a")), nil, false}, {kind(5, scalar("a")), nil, false}, {kind(-1, scalar("a")), nil, false}, {kind(5, trail(lead(scalar("a"), "b"), "c")), []string{"#b", "#c"}, false},
	// the order
	{trail(foot(lead(scalar("a"), "b", "c"), "d", "e"), "f"), []string{"#b", "#c", "=a", "#d", "#e", "#f"}, false}, {trail(foot(lead(alias("a"), "b", "c"), "d", "e"), "f"), []string{"#b", "#c", "*a", "#d", "#e", "#f"}, false}, {trail(foot(lead(scalar(""), "b"), "d"), "f"), []string{"#b", "#d", "#f"}, false}, {trail(foot(lead(sequence(scalar("x"), alias("y")), "b", "c"), "d", "e"), "f"), []string{"#b", "#c", "=x", "*y", "#d", "#e", "#f"}, false}, {trail(foot(lead(mapping(scalar("x"), alias("y")), "b", "c"), "d", "e"), "f"), []string{"#b", "#c", "=x", "*y", "#d", "#e", "#f"}, false}, {trail(sequence(trail(sequence(trail(scalar("a"), "b")), "c"), trail(scalar("d"), "e")), "f"), []string{"=a", "#b", "#c", "=d", "#e", "#f"}, false},
	// Kids of nodes that are no collections
	{api.Node{Kind: api.KScalar, Text: "a", Kids: []api.Node{scalar("b")}, Foot: comments("c"), HasTrail: true}, []string{"=a", "=b", "#c", "#"}, false}, {api.Node{Kind: api.KAlias, Text: "a", Kids: []api.Node{alias("b")}}, []string{"*a", "*b"}, false}, {api.Node{Kids: []api.Node{trail(scalar("a"), "b"), scalar("c")}}, []string{"=a", "#b", "=c"}, false}, {api.Node{Kind: api.KScalar, Kids: []api.Node{trail(scalar("a"), "b")}}, []string{"=a", "#b"}, false}, {api.Node{Kind: api.KAlias, Kids: []api.Node{mapping(trail(scalar("a"), "b"))}}, []string{"*", "=a", "#b"}, true}, {api.Node{Kind: 6, Kids: []api.Node{mapping(trail(scalar("a"), "b"))}}, []string{"=a", "#b"}, true},
	// texts of comments
	{lead(scalar("a"), ""), []string{"#", "=a"}, false}, {lead(scalar("a"), "#", "=", "*", " "), []string{"##", "#=", "#*", "# ", "=a"}, false}, {lead(scalar("=a"), "=a"), []string{"#=a", "==a"}, false}, {lead(alias("#a"), "#a"), []string{"##a", "*#a"}, false}, {foot(sequence(), "", ""), []string{"#", "#"}, false},
	// a Trail that there is and that there is not
	{trail(scalar("a"), ""), []string{"=a", "#"}, false}, {api.Node{Kind: api.KScalar, Text: "a", Trail: "b"}, []string{"=a"}, false}, {mapping(api.Node{Kind: api.KScalar, Trail: "b"}), nil, false}, {mapping(trail(scalar(""), "")), []string{"#"}, true},
	// keys and values
	{mapping(lead(scalar("a"), "b"), scalar("c")), []string{"#b", "=a", "=c"}, false}, {mapping(foot(scalar("a"), "b"), scalar("c")), []string{"=a", "#b", "=c"}, true}, {mapping(trail(scalar("a"), "b"), scalar("c")), []string{"=a", "#b", "=c"}, true}, {mapping(trail(alias("a"), "b"), scalar("c")), []string{"*a", "#b", "=c"}, true}, {mapping(scalar("a"), trail(foot(lead(scalar("b"), "c"), "d"), "e")), []string{"=a", "#c", "=b", "#d", "#e"}, false}, {mapping(scalar("a"), scalar("b"), lead(scalar("c"), "d"), scalar("e")), []string{"=a", "=b", "#d", "=c", "=e"}, false}, {mapping(scalar("a"), scalar("b"), trail(scalar("c"), "d"), scalar("e")), []string{"=a", "=b", "=c", "#d", "=e"}, true}, {trail(foot(lead(mapping(scalar("a"), scalar("b")), "c"), "d"), "e"), []string{"#c", "=a", "=b", "#d", "#e"}, false},
	// a key without a value
	{mapping(lead(scalar("a"), "b")), []string{"#b", "=a"}, false}, {mapping(trail(scalar("a"), "b")), []string{"=a", "#b"}, true}, {mapping(scalar("a"), scalar("b"), trail(scalar("c"), "d")), []string{"=a", "=b", "=c", "#d"}, true},
	// in a KSeq there are no keys
	{sequence(trail(foot(lead(scalar("a"), "b"), "c"), "d"), scalar("e")), []string{"#b", "=a", "#c", "#d", "=e"}, false},
	// keys with Kids
	{mapping(lead(sequence(scalar("a")), "b")), []string{"#b", "=a"}, false}, {mapping(sequence(lead(scalar("a"), "b"))), []string{"#b", "=a"}, true}, {mapping(sequence(scalar("x"), trail(scalar("a"), "b"))), []string{"=x", "=a", "#b"}, true}, {mapping(foot(sequence(), "b")), []string{"#b"}, true}, {mapping(sequence(sequence(foot(sequence(), "a")))), []string{"#a"}, true}, {mapping(mapping(lead(scalar("a"), "b"))), []string{"#b", "=a"}, true}, {mapping(mapping(scalar("a"), lead(scalar("b"), "c"))), []string{"=a", "#c", "=b"}, true}, {mapping(mapping(scalar("a"), trail(scalar("b"), "c"))), []string{"=a", "=b", "#c"}, true}, {mapping(lead(mapping(scalar("a")), "b")), []string{"#b", "=a"}, false}, {mapping(sequence(mapping(lead(scalar("a"), "b")))), []string{"#b", "=a"}, true}, {mapping(lead(sequence(mapping(scalar("a"))), "b")), []string{"#b", "=a"}, false},
	// values with keys
	{mapping(scalar("a"), mapping(lead(scalar("b"), "c"))), []string{"=a", "#c", "=b"}, false}, {mapping(scalar("a"), mapping(trail(scalar("b"), "c"))), []string{"=a", "=b", "#c"}, true}, {mapping(scalar("a"), sequence(mapping(scalar("b"), scalar("c"), lead(scalar("d"), "e")))), []string{"=a", "=b", "=c", "#e", "=d"}, false}, {mapping(scalar("a"), sequence(mapping(foot(scalar("b"), "c")))), []string{"=a", "=b", "#c"}, true}, {sequence(scalar("a"), mapping(mapping(scalar("b"), scalar("c")), trail(scalar("d"), "e"))), []string{"=a", "=b", "=c", "=d", "#e"}, false},
	// what is told behind a key that has a comment, and ahead of it
	{sequence(mapping(trail(scalar("a"), "b")), trail(scalar("c"), "d")), []string{"=a", "#b", "=c", "#d"}, true}, {sequence(trail(scalar("a"), "b"), mapping(trail(scalar("c"), "d"))), []string{"=a", "#b", "=c", "#d"}, true},
}

// 19.1, 19.2, 19.4: nodes of all kinds, as roots and further in.
func TestNodes(t *testing.T) {
	for i, c := range nodes {
		name := "node " + strconv.Itoa(i)
		one := api.Stream{Docs: []api.Doc{{Root: c.n}}}
		check(t, name, one, c.row, c.inner)
		sameAsWords(t, one)
		check(t, name+" in a value", api.Stream{Docs: []api.Doc{{Root: sequence(mapping(scalar("u"), c.n))}}}, slices.Concat([]string{"=u"}, c.row), c.inner)
		within := len(filter(c.row)) > len(c.n.Lead)
		check(t, name+" as a key", api.Stream{Docs: []api.Doc{{Root: mapping(scalar("u"), scalar("v"), c.n, scalar("w"))}}}, slices.Concat([]string{"=u", "=v"}, c.row, []string{"=w"}), within)
		check(t, name+" in a key", api.Stream{Docs: []api.Doc{{Root: mapping(sequence(c.n), scalar("v"))}}}, slices.Concat(c.row, []string{"=v"}), len(filter(c.row)) > 0)
		for j, d := range nodes {
			two := api.Stream{Docs: []api.Doc{{Head: comments("h"), Root: c.n}, {Root: d.n, Foot: comments("f")}}, Tail: comments("t")}
			check(t, name+" and "+strconv.Itoa(j), two, slices.Concat([]string{"#h"}, c.row, d.row, []string{"#f", "#t"}), c.inner || d.inner)
		}
	}
}

// 19.1, 19.2: comments of documents and of streams, in their order; none of them is within a key.
func TestDocuments(t *testing.T) {
	for _, c := range []struct {
		st  api.Stream
		row []string
	}{
		{api.Stream{}, nil}, {api.Stream{Docs: []api.Doc{}, Tail: []api.Comment{}}, nil}, {api.Stream{Docs: make([]api.Doc, 3)}, nil}, {api.Stream{Tail: comments("a", "", "a")}, []string{"#a", "#", "#a"}},
		{api.Stream{Docs: []api.Doc{{Head: comments("a")}}}, []string{"#a"}}, {api.Stream{Docs: []api.Doc{{Foot: comments("a")}}}, []string{"#a"}}, {api.Stream{Docs: []api.Doc{{Dirs: []string{"%a"}, Mark: true}}}, nil},
		{api.Stream{Docs: []api.Doc{{Head: comments("a", "b"), Dirs: []string{"%d"}, Mark: true, Root: trail(lead(mapping(scalar("c"), alias("d")), "e"), "f"), Foot: comments("g", "h")}, {Head: comments("i"), Root: scalar("j"), Foot: comments("k")}, {Root: scalar("")}, {Root: alias("l")}}, Tail: comments("m", "n")}, []string{"#a", "#b", "#e", "=c", "*d", "#f", "#g", "#h", "#i", "=j", "#k", "*l", "#m", "#n"}},
	} {
		check(t, "a stream", c.st, c.row, false)
		sameAsWords(t, c.st)
	}
}

// 19.1, 19.2, 19.4: as many levels as may be, and many nodes, documents and comments, and long texts.
func TestLong(t *testing.T) {
	const n = 1 << 16
	deep, ahead, behind := scalar("a"), []string(nil), []string(nil)
	for i := range n - 2 {
		s := strconv.Itoa(i)
		deep = trail(foot(lead(api.Node{Kind: api.KSeq + i%2, Kids: []api.Node{scalar("k"), deep}}, s), "f"), s)
		ahead, behind = append(ahead, "=k", "#"+s), append(behind, "#f", "#"+s)
	}
	slices.Reverse(ahead)
	check(t, "deep nodes", api.Stream{Docs: []api.Doc{{Root: deep}}}, slices.Concat(ahead, []string{"=a"}, behind), false)
	for _, innermost := range []struct {
		n     api.Node
		row   []string
		inner bool
	}{{trail(scalar("a"), "b"), []string{"=a", "#b"}, true}, {lead(scalar("a"), "b"), []string{"#b", "=a"}, true}, {scalar("a"), []string{"=a"}, false}} {
		deep = innermost.n
		for range n - 2 {
			deep = mapping(deep)
		}
		check(t, "deep keys", api.Stream{Docs: []api.Doc{{Root: deep}}}, innermost.row, innermost.inner)
	}
	var wide api.Node
	var row []string
	for i := range n {
		s := strconv.Itoa(i)
		wide.Kids = append(wide.Kids, lead(scalar(s), s))
		row = append(row, "#"+s, "="+s)
	}
	check(t, "many items", api.Stream{Docs: []api.Doc{{Root: kind(api.KSeq, wide)}}}, row, false)
	check(t, "many keys", api.Stream{Docs: []api.Doc{{Root: kind(api.KMap, wide)}}}, row, false)
	for i := n - 2; i < n; i++ {
		wide.Kids[i] = trail(scalar("a"), "b")
		check(t, "many keys", api.Stream{Docs: []api.Doc{{Root: kind(api.KMap, wide)}}}, slices.Concat(row[:2*i], []string{"=a", "#b"}, row[2*i+2:]), i%2 == 0)
		wide.Kids[i] = lead(scalar(strconv.Itoa(i)), strconv.Itoa(i))
	}
	docs := make([]api.Doc, n)
	for i := range docs {
		docs[i] = api.Doc{Head: comments("h"), Root: scalar("a"), Foot: comments("f")}
	}
	check(t, "many documents", api.Stream{Docs: docs}, slices.Repeat([]string{"#h", "=a", "#f"}, n), false)
	many, long := slices.Repeat(comments("a"), n), strings.Repeat("a\n", 10*n)
	check(t, "many comments", api.Stream{Docs: []api.Doc{{Head: many, Root: api.Node{Lead: many, Foot: many}, Foot: many}}, Tail: many}, slices.Repeat([]string{"#a"}, 5*n), false)
	check(t, "long texts", api.Stream{Docs: []api.Doc{{Root: trail(lead(sequence(scalar(long), alias(long)), long), long)}}}, []string{"#" + long, "=" + long, "*" + long, "#" + long}, false)
}

// whole returns a copy of a node, with what stands in the spare capacity of its lists at their ends.
func whole(n api.Node) api.Node {
	n.Lead, n.Foot = slices.Clone(n.Lead[:cap(n.Lead)]), slices.Clone(n.Foot[:cap(n.Foot)])
	n.Kids = slices.Clone(n.Kids[:cap(n.Kids)])
	for i, kid := range n.Kids {
		n.Kids[i] = whole(kid)
	}
	return n
}

// wholeStream does the same of a stream.
func wholeStream(st api.Stream) api.Stream {
	st.Docs, st.Tail = slices.Clone(st.Docs[:cap(st.Docs)]), slices.Clone(st.Tail[:cap(st.Tail)])
	for i, d := range st.Docs {
		d.Head, d.Dirs, d.Foot = slices.Clone(d.Head[:cap(d.Head)]), slices.Clone(d.Dirs[:cap(d.Dirs)]), slices.Clone(d.Foot[:cap(d.Foot)])
		d.Root = whole(d.Root)
		st.Docs[i] = d
	}
	return st
}

// 19.1, 19.2: no argument is changed, nor its spare capacity, nothing of it is kept, and each answer has memory of its own.
func TestOwnMemory(t *testing.T) {
	for seed := range uint64(2000) {
		st := made(seed, 3)
		before := wholeStream(st)
		row, notes, inner := leaf.Row(st), leaf.Notes(st), leaf.Inner(st)
		if !reflect.DeepEqual(wholeStream(st), before) {
			t.Fatalf("stream %d is another one afterwards", seed)
		}
		keptRow, keptNotes := slices.Clone(row), slices.Clone(notes)
		for _, l := range [][]string{leaf.Row(st), leaf.Notes(st)} {
			l = l[:cap(l)]
			for i := range l {
				l[i] = "changed"
			}
		}
		if !reflect.DeepEqual(wholeStream(st), before) || !slices.Equal(row, keptRow) || !slices.Equal(notes, keptNotes) {
			t.Fatalf("of stream %d: an answer shares memory", seed)
		}
		if !slices.Equal(leaf.Row(st), row) || !slices.Equal(leaf.Notes(st), notes) || leaf.Inner(st) != inner {
			t.Fatalf("of stream %d: two answers are not the same", seed)
		}
	}
	for _, s := range []string{"a", strings.Repeat("a", 100)} {
		s = strings.Clone(s)
		st := api.Stream{Docs: []api.Doc{{Head: comments(s), Root: trail(lead(sequence(scalar(s), alias(s)), s), s)}}, Tail: comments(s)}
		from := uintptr(unsafe.Pointer(unsafe.StringData(s)))
		for _, told := range slices.Concat(leaf.Row(st), leaf.Notes(st)) {
			if at := uintptr(unsafe.Pointer(unsafe.StringData(told))); from < at+uintptr(len(told)) && at < from+uintptr(len(s)) {
				t.Errorf("the memory of %q is that of the text", told)
			}
		}
	}
}
