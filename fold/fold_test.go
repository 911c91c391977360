package fold_test

import (
	"slices"
	"strings"
	"testing"
	"unsafe"

	"bosket/fold"
)

// 6.1: rows of plain and quoted scalars, written out.
func TestFlow(t *testing.T) {
	for _, c := range []struct {
		rows []string
		want string
	}{
		{[]string{"a", "", "", "b"}, "a\n\nb"}, // the chapter's examples
		{[]string{"", "b"}, " b"},
		{nil, ""},
		{[]string{}, ""},
		{[]string{""}, ""}, // both the first and the last one
		{[]string{"a"}, "a"},
		{[]string{" a\t"}, " a\t"},
		{[]string{"", ""}, " "}, // neither the first nor the last one is a blank row
		{[]string{"", "", ""}, "\n"},
		{[]string{"", "", "", ""}, "\n\n"},
		{[]string{"a", "b"}, "a b"},
		{[]string{"a", "b", "c"}, "a b c"},
		{[]string{"a", ""}, "a "},
		{[]string{"a", "", ""}, "a\n"},
		{[]string{"a", "", "", ""}, "a\n\n"},
		{[]string{"", "", "b"}, "\nb"},
		{[]string{"", "", "", "b"}, "\n\nb"},
		{[]string{"", "a", ""}, " a "},
		{[]string{"", "", "a", "", "", ""}, "\na\n\n"},
		{[]string{"a", "", "b"}, "a\nb"},
		{[]string{"a", "", "b", "", "", "c", "d"}, "a\nb\n\nc d"}, // each gap for itself
		{[]string{" ", "x "}, "  x "},                             // White is no empty row, and is not trimmed
		{[]string{"a", " ", "b"}, "a   b"},
		{[]string{"a", "\t", "b"}, "a \t b"},
		{[]string{"a", "", " ", "", "b"}, "a\n \nb"},
		{[]string{"a", " b", "c"}, "a  b c"}, // a row that begins with White is as any other
		{[]string{"a", "", "\tb"}, "a\n\tb"},
		{[]string{"é", "", "😀", "\xff"}, "é\n😀 \xff"},
		{[]string{"\r", "\u2028", "\x00"}, "\r \u2028 \x00"}, // not empty, and not White
	} {
		if got := fold.Flow(c.rows); got != c.want {
			t.Errorf("Flow(%q) = %q, want %q", c.rows, got, c.want)
		}
	}
}

// 6.2: rows of folded block scalars, written out.
func TestBlockFolded(t *testing.T) {
	for _, c := range []struct {
		rows []string
		want string
	}{
		{nil, ""},
		{[]string{}, ""},
		{[]string{""}, ""}, // all are blank: an LF less than rows
		{[]string{"", ""}, "\n"},
		{[]string{"", "", "", ""}, "\n\n\n"},
		{[]string{"a"}, "a"},
		{[]string{" a"}, " a"},
		{[]string{"a", "b"}, "a b"},
		{[]string{"a", "b", "c"}, "a b c"},
		{[]string{"a", "", "b"}, "a\nb"},
		{[]string{"a", "", "", "b"}, "a\n\nb"},
		{[]string{"a", "", "b", "", "", "c", "d"}, "a\nb\n\nc d"}, // each gap for itself
		{[]string{"a", " b"}, "a\n b"},                            // White at the lower one
		{[]string{" a", "b"}, " a\nb"},                            // at the upper one
		{[]string{" a", " b"}, " a\n b"},                          // at both
		{[]string{"a", "\tb"}, "a\n\tb"},
		{[]string{"\ta", "b"}, "\ta\nb"},
		{[]string{"a", "", " b"}, "a\n\n b"},
		{[]string{" a", "", "b"}, " a\n\nb"},
		{[]string{" a", "", "", "\tb"}, " a\n\n\n\tb"},
		{[]string{"a", "b", " c", "d", "e"}, "a b\n c\nd e"}, // White counts beside its row only
		{[]string{"a ", "b"}, "a  b"},                        // White elsewhere doesn't count
		{[]string{"a b", "c\td"}, "a b c\td"},
		{[]string{"a", " ", "b"}, "a\n \nb"}, // a row of White is no blank row, and begins with it
		{[]string{"a", "\t", "", "b"}, "a\n\t\n\nb"},
		{[]string{"", " "}, "\n "},
		{[]string{" ", ""}, " \n"},
		{[]string{"", "a"}, "\na"}, // ahead of the first, one each
		{[]string{"", "", "a"}, "\n\na"},
		{[]string{"", " a"}, "\n a"}, // White or not
		{[]string{"", "", "\ta"}, "\n\n\ta"},
		{[]string{"a", ""}, "a\n"}, // behind the last, one each
		{[]string{"a", "", ""}, "a\n\n"},
		{[]string{" a", ""}, " a\n"},
		{[]string{"\ta", "", ""}, "\ta\n\n"},
		{[]string{"", "", "a", "", "b", "", "", ""}, "\n\na\nb\n\n\n"},
		{[]string{"é", "😀", "\xff"}, "é 😀 \xff"},
		{[]string{"\u00a0a", "\u3000b", "\vc", "\rd"}, "\u00a0a \u3000b \vc \rd"}, // none of these is White
		{[]string{"# a", "- b", "---"}, "# a - b ---"},
	} {
		if got := fold.Block(c.rows, true); got != c.want {
			t.Errorf("Block(%q, true) = %q, want %q", c.rows, got, c.want)
		}
	}
}

// 6.2: rows of literal block scalars, written out.
func TestBlockLiteral(t *testing.T) {
	for _, c := range []struct {
		rows []string
		want string
	}{
		{nil, ""},
		{[]string{}, ""},
		{[]string{""}, ""},
		{[]string{"", ""}, "\n"},
		{[]string{"", "", ""}, "\n\n"},
		{[]string{"a"}, "a"},
		{[]string{"a", "b"}, "a\nb"},
		{[]string{"a", "", "", "b"}, "a\n\n\nb"},
		{[]string{"a", " b", "\tc", "d "}, "a\n b\n\tc\nd "},
		{[]string{"", "a", "", " b", ""}, "\na\n\n b\n"},
		{[]string{" ", "\t", "", "é\xff"}, " \n\t\n\né\xff"},
	} {
		if got := fold.Block(c.rows, false); got != c.want {
			t.Errorf("Block(%q, false) = %q, want %q", c.rows, got, c.want)
		}
	}
}

// 6.2: every byte as the first one of a row; only a blank and a tab keep the line feeds.
func TestBlockEveryByte(t *testing.T) {
	for i := range 0x100 {
		c := string([]byte{byte(i)})
		if c == "\n" { // no row has one
			continue
		}
		near, far := " ", "\n"
		if c == " " || c == "\t" {
			near, far = "\n", "\n\n"
		}
		for _, row := range []string{c, c + "x", c + " ", c + "\t"} {
			for _, rows := range [][]string{{"x", row}, {row, "x"}, {row, row}, {"x \t", row}, {row, "x \t"}} {
				if got, want := fold.Block(rows, true), rows[0]+near+rows[1]; got != want {
					t.Fatalf("Block(%q, true) = %q, want %q", rows, got, want)
				}
				rows = []string{rows[0], "", rows[1]}
				if got, want := fold.Block(rows, true), rows[0]+far+rows[2]; got != want {
					t.Fatalf("Block(%q, true) = %q, want %q", rows, got, want)
				}
			}
		}
	}
}

// flow works 6.1 out from the places of the rows that are not blank rows.
func flow(rows []string) string {
	var places []int
	for i, row := range rows {
		if i == 0 || i == len(rows)-1 || row != "" {
			places = append(places, i)
		}
	}
	text := ""
	for k, i := range places {
		if k > 0 {
			blanks := i - places[k-1] - 1
			text += strings.Repeat(" ", max(1-blanks, 0)) + strings.Repeat("\n", blanks)
		}
		text += rows[i]
	}
	return text
}

// folded works the second half of 6.2 out from the places of the rows that are not blank rows.
func folded(rows []string) string {
	var places []int
	for i, row := range rows {
		if row != "" {
			places = append(places, i)
		}
	}
	if len(places) == 0 {
		return strings.Repeat("\n", max(len(rows), 1)-1)
	}
	text := strings.Repeat("\n", places[0])
	for k, i := range places {
		if k > 0 {
			above := rows[places[k-1]]
			switch blanks := i - places[k-1] - 1; {
			case strings.ContainsAny(above[:1]+rows[i][:1], " \t"):
				text += strings.Repeat("\n", blanks+1)
			case blanks == 0:
				text += " "
			default:
				text += strings.Repeat("\n", blanks)
			}
		}
		text += rows[i]
	}
	return text + strings.Repeat("\n", len(rows)-1-places[len(places)-1])
}

// check holds both functions against the chapter's words for rows, and to leaving them as they are.
func check(t *testing.T, rows []string) {
	t.Helper()
	before := slices.Clone(rows)
	if got := fold.Flow(rows); got != flow(before) {
		t.Fatalf("Flow(%q) = %q, want %q", before, got, flow(before))
	}
	if got := fold.Block(rows, true); got != folded(before) {
		t.Fatalf("Block(%q, true) = %q, want %q", before, got, folded(before))
	}
	if got := fold.Block(rows, false); got != strings.Join(before, "\n") {
		t.Fatalf("Block(%q, false) = %q", before, got)
	}
	if !slices.Equal(rows, before) {
		t.Fatalf("%q has become %q", before, rows)
	}
}

// every calls use with all lists of at most most of these parts.
func every(parts []string, most int, use func([]string)) {
	var longer func([]string)
	longer = func(list []string) {
		use(list)
		if len(list) == most {
			return
		}
		for _, p := range parts {
			longer(append(slices.Clone(list), p))
		}
	}
	longer(nil)
}

// 6.1, 6.2, 6.4: every list of up to seven rows of five kinds, and of up to four of many more.
func TestEveryRows(t *testing.T) {
	every([]string{"", "a", " b", "\tc", "d "}, 7, func(rows []string) { check(t, rows) })
	every([]string{"", "a", "b c", " ", "\t", "  d", " \te", "f\t", "\r", "\x00", "\\", "#", "é", "\u00a0", "\u3000g", "😀", "\xff", "\xc2"}, 4, func(rows []string) { check(t, rows) })
}

// runs returns the texts between the LFs of text, and how many LFs stand behind each; none of them is empty but the first and the last.
func runs(text string) ([]string, []int) {
	parts, feeds := []string{""}, []int{0}
	for i, row := range strings.Split(text, "\n") {
		if i > 0 {
			feeds[len(feeds)-1]++
		}
		switch {
		case i == 0:
			parts[0] = row
		case row != "":
			parts, feeds = append(parts, row), append(feeds, 0)
		}
	}
	if feeds[len(feeds)-1] > 0 {
		parts, feeds = append(parts, ""), append(feeds, 0)
	}
	return parts, feeds
}

// flowRows returns rows of which a plain or quoted scalar with that text may consist.
func flowRows(text string) []string {
	var rows []string
	parts, feeds := runs(text)
	for i, p := range parts {
		rows = append(rows, p)
		rows = append(rows, make([]string, feeds[i])...)
	}
	return rows
}

// foldedRows returns rows of which a folded block scalar with that text may consist.
func foldedRows(text string) []string {
	if strings.Trim(text, "\n") == "" {
		return make([]string, len(text)+1)
	}
	var rows []string
	parts, feeds := runs(text)
	for i, p := range parts {
		if p != "" {
			rows = append(rows, p)
		}
		blanks := feeds[i]
		if p != "" && i+1 < len(parts) && parts[i+1] != "" && strings.ContainsAny(p[:1]+parts[i+1][:1], " \t") {
			blanks--
		}
		rows = append(rows, make([]string, blanks)...)
	}
	return rows
}

// 6.3 (W2): every text has rows in each of the three forms, from which exactly this text comes back.
func TestEveryText(t *testing.T) {
	every([]string{"a", "é", " ", "\t", "\n"}, 7, func(parts []string) {
		text := strings.Join(parts, "")
		if rows := flowRows(text); fold.Flow(rows) != text {
			t.Fatalf("Flow(%q) = %q, want %q", rows, fold.Flow(rows), text)
		}
		if rows := foldedRows(text); fold.Block(rows, true) != text {
			t.Fatalf("Block(%q, true) = %q, want %q", rows, fold.Block(rows, true), text)
		}
		if rows := strings.Split(text, "\n"); fold.Block(rows, false) != text {
			t.Fatalf("Block(%q, false) = %q, want %q", rows, fold.Block(rows, false), text)
		}
	})
}

// 6.3 (W2): a row may be broken in two at a blank between others, and nothing of its text is changed.
func TestEveryBreak(t *testing.T) {
	every([]string{"a", "é", " ", "\t"}, 6, func(parts []string) {
		text := strings.Join(parts, "")
		for i := range text {
			if text[i] != ' ' {
				continue
			}
			two := []string{text[:i], text[i+1:]}
			if got := fold.Flow(two); got != text {
				t.Fatalf("Flow(%q) = %q, want %q", two, got, text)
			}
			if two[0] == "" || two[1] == "" || strings.ContainsAny(two[0][:1]+two[1][:1], " \t") {
				continue
			}
			if got := fold.Block(two, true); got != text {
				t.Fatalf("Block(%q, true) = %q, want %q", two, got, text)
			}
		}
	})
}

// 6.1, 6.2: what lies behind the rows in their slice is neither read nor changed, and the result is memory of its own.
func TestArguments(t *testing.T) {
	all := []string{"x", "a", "", "b", "y", "", "z"}
	before := slices.Clone(all)
	rows := all[1:4]
	if fold.Flow(rows) != "a\nb" || fold.Block(rows, true) != "a\nb" || fold.Block(rows, false) != "a\n\nb" {
		t.Errorf("rows within others are read wrongly")
	}
	if !slices.Equal(all, before) {
		t.Errorf("%q has become %q", before, all)
	}
	row := strings.Repeat("a", 40)
	for _, text := range []string{fold.Flow([]string{row}), fold.Block([]string{row}, true), fold.Block([]string{row}, false)} {
		if text != row || unsafe.StringData(text) == unsafe.StringData(row) {
			t.Errorf("%q is not memory of its own", text)
		}
	}
}

// 6.4: rows that are none, since they have an LF, end without a panic.
func TestNoRows(t *testing.T) {
	every([]string{"", "\n", "\n\n", "a\n", "\na", " \n", "\xff"}, 4, func(rows []string) {
		fold.Flow(rows)
		fold.Block(rows, true)
		fold.Block(rows, false)
	})
}

// 6.1, 6.2, 6.4: long lists of rows, and long rows, end.
func TestLong(t *testing.T) {
	const n = 1 << 18
	feeds := strings.Repeat("\n", n)
	blanks := make([]string, n)
	between := append(append([]string{"a"}, blanks...), "b")
	long := strings.Repeat("é", n)
	for _, c := range []struct {
		name                  string
		rows                  []string
		flow, folded, literal string
	}{
		{"blank rows", append(blanks, ""), feeds[1:], feeds, feeds},
		{"blank rows between", between, "a" + feeds + "b", "a" + feeds + "b", "a" + feeds + "\nb"},
		{"rows", slices.Repeat([]string{"a"}, n), strings.Repeat("a ", n-1) + "a", strings.Repeat("a ", n-1) + "a", strings.Repeat("a\n", n-1) + "a"},
		{"rows with White", slices.Repeat([]string{" a"}, n), strings.Repeat(" a ", n-1) + " a", strings.Repeat(" a\n", n-1) + " a", strings.Repeat(" a\n", n-1) + " a"},
		{"a long row", []string{long, "b"}, long + " b", long + " b", long + "\nb"},
	} {
		if fold.Flow(c.rows) != c.flow || fold.Block(c.rows, true) != c.folded || fold.Block(c.rows, false) != c.literal {
			t.Errorf("%s, %d, are joined wrongly", c.name, n)
		}
	}
}
