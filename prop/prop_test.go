package prop_test

import (
	"math"
	"regexp"
	"slices"
	"strings"
	"testing"
	"unsafe"

	"bosket/api"
	"bosket/hand"
	"bosket/prop"
)

// The chapter's words for a name, for White, and for what may follow a property.
var (
	name   = regexp.MustCompile(`\A[^ \t\n,\[\]{}]*`)
	white  = regexp.MustCompile(`\A[ \t]*`)
	behind = map[bool]*regexp.Regexp{false: regexp.MustCompile(`\A(?:[ \t\n]|\z)`), true: regexp.MustCompile(`\A(?:[ \t\n,\[\]{}]|\z)`)}
)

// property is one that was found: its first byte, what it tells, and where it ends.
type property struct {
	mark byte
	text string
	from int
	to   int
}

// properties returns whatever looks like a property from at on, one behind the other with White between.
func properties(s string, at int) (found []property) {
	for from := at; ; from += len(white.FindString(s[from:])) {
		switch {
		case strings.HasPrefix(s[from:], "&"):
			text := name.FindString(s[from+1:])
			found = append(found, property{'&', text, from, from + 1 + len(text)})
		case strings.HasPrefix(s[from:], "!"):
			text := s[from : from+hand.Size(s, from)]
			found = append(found, property{'!', text, from, from + len(text)})
		default:
			return found
		}
		from = found[len(found)-1].to
	}
}

// wantRead works Read out from the chapter's words: all properties are looked for first, and then what is wrong with them.
func wantRead(s string, at int, flow bool) (string, string, int, api.Errno) {
	if at < 0 || at > len(s) {
		return "", "", at, api.OK
	}
	texts, to := map[byte]string{}, at
	wrong := len(s) + 1
	for _, p := range properties(s, at) {
		_, again := texts[p.mark]
		if p.text == "" || again {
			wrong = min(wrong, p.from)
		}
		if !behind[flow].MatchString(s[p.to:]) {
			wrong = min(wrong, p.to)
		}
		texts[p.mark], to = p.text, p.to
	}
	if wrong <= len(s) {
		return "", "", wrong, api.ErrForm
	}
	return texts['&'], texts['!'], to, api.OK
}

// wantAlias works Alias out from the chapter's words.
func wantAlias(s string, at int) (string, int, api.Errno) {
	if at < 0 || at >= len(s) || s[at] != '*' || name.FindString(s[at+1:]) == "" {
		return "", at, api.ErrForm
	}
	text := name.FindString(s[at+1:])
	return text, at + 1 + len(text), api.OK
}

// checkAt holds both calls against the chapter's words at one place in s.
func checkAt(t *testing.T, s string, at int) {
	t.Helper()
	for _, flow := range []bool{false, true} {
		anchor, tag, to, e := prop.Read(s, at, flow)
		if wantAnchor, wantTag, wantTo, f := wantRead(s, at, flow); anchor != wantAnchor || tag != wantTag || to != wantTo || e != f {
			t.Fatalf("Read(%q, %d, %v) = %q, %q, %d, %d, want %q, %q, %d, %d", s, at, flow, anchor, tag, to, e, wantAnchor, wantTag, wantTo, f)
		}
	}
	got, to, e := prop.Alias(s, at)
	if want, wantTo, f := wantAlias(s, at); got != want || to != wantTo || e != f {
		t.Fatalf("Alias(%q, %d) = %q, %d, %d, want %q, %d, %d", s, at, got, to, e, want, wantTo, f)
	}
}

// check holds both calls against the chapter's words at every place in s, and right outside of it.
func check(t *testing.T, s string) {
	t.Helper()
	for at := -1; at <= len(s)+1; at++ {
		checkAt(t, s, at)
	}
}

// every calls use with all texts of at most most of these parts.
func every(parts []string, most int, use func(string)) {
	var longer func(string, int)
	longer = func(s string, n int) {
		use(s)
		if n == most {
			return
		}
		for _, p := range parts {
			longer(s+p, n+1)
		}
	}
	longer("", 0)
}

// read are texts that begin with properties, or with none.
var read = []struct {
	s, anchor, tag string
	to             int
}{
	// the chapter's example
	{"!t &a x", "a", "!t", 5},
	// an anchor alone
	{"&a", "a", "", 2}, {"&a x", "a", "", 2}, {"&a\tx", "a", "", 2}, {"&a\nx", "a", "", 2}, {"&a ", "a", "", 2}, {"&a \t ", "a", "", 2}, {"&a #c", "a", "", 2}, {"&a : b", "a", "", 2}, {"&a [b]", "a", "", 2}, {"&a *b", "a", "", 2}, {"&a |\n b", "a", "", 2}, {"&a %", "a", "", 2},
	// names of any bytes
	{"&abc d", "abc", "", 4}, {"&a:b c", "a:b", "", 4}, {"&a: b", "a:", "", 3}, {"&: a", ":", "", 2}, {"&& a", "&", "", 2}, {"&! a", "!", "", 2}, {"&!t a", "!t", "", 3}, {"&* a", "*", "", 2}, {"&# a", "#", "", 2}, {"&a#b", "a#b", "", 4}, {"&\" a", "\"", "", 2}, {"&'a' b", "'a'", "", 4}, {"&- a", "-", "", 2}, {"&a&b c", "a&b", "", 4}, {"&a!t c", "a!t", "", 4}, {"&<a> b", "<a>", "", 4}, {"&%41 b", "%41", "", 4}, {"&\\ a", "\\", "", 2}, {"&--- a", "---", "", 4},
	{"&é", "é", "", 3}, {"&\xff a", "\xff", "", 2}, {"&\x00", "\x00", "", 2}, {"&a\rb", "a\rb", "", 4}, {"&a\u00a0b c", "a\u00a0b", "", 5}, {"&\u2028 a", "\u2028", "", 4}, {"&a\u0120b", "a\u0120b", "", 5}, {"&\u012ca", "\u012ca", "", 4}, {"&a\v\f b", "a\v\f", "", 4}, {"&a\ufeff b", "a\ufeff", "", 5},
	// a tag alone
	{"!", "", "!", 1}, {"! x", "", "!", 1}, {"!\nx", "", "!", 1}, {"!\tx", "", "!", 1}, {"!t", "", "!t", 2}, {"!t x", "", "!t", 2}, {"!t ", "", "!t", 2}, {"!t #c", "", "!t", 2}, {"!t: a", "", "!t:", 3}, {"!!str x", "", "!!str", 5}, {"!!a :", "", "!!a", 3}, {"!e!a x", "", "!e!a", 4}, {"!a%21 x", "", "!a%21", 5}, {"!# x", "", "!#", 2}, {"!t&a x", "", "!t&a", 4}, {"!& x", "", "!&", 2}, {"!* x", "", "!*", 2},
	{"!<a> x", "", "!<a>", 4}, {"!<a,b> x", "", "!<a,b>", 6}, {"!<[]!&a>\n", "", "!<[]!&a>", 8}, {"!<tag:yaml.org,2002:str>", "", "!<tag:yaml.org,2002:str>", 24}, {"!<%41> x", "", "!<%41>", 6},
	// both
	{"&a !t", "a", "!t", 5}, {"&a !t x", "a", "!t", 5}, {"&a !t\nx", "a", "!t", 5}, {"&a ! x", "a", "!", 4}, {"! &a x", "a", "!", 4}, {"!!b &a", "a", "!!b", 6}, {"&a  !t", "a", "!t", 6}, {"&a\t!t", "a", "!t", 5}, {"!t \t &a", "a", "!t", 7}, {"&a !<b> c", "a", "!<b>", 7}, {"!<b> &a c", "a", "!<b>", 7}, {"!e!x &é #", "é", "!e!x", 8}, {"&a !t #c", "a", "!t", 5}, {"&a !t  ", "a", "!t", 5}, {"&! !&", "!", "!&", 5}, {"!& &!", "!", "!&", 5},
	// others further on
	{"&a\n!t", "a", "", 2}, {"!t\n&a", "", "!t", 2}, {"&a \n !t", "a", "", 2}, {"&a\n&b", "a", "", 2}, {"!t \n!t", "", "!t", 2}, {"&a !t\n&b !u", "a", "!t", 5}, {"&a #!t", "a", "", 2}, {"&a x !t", "a", "", 2}, {"&a *b !t", "a", "", 2}, {"&a ,!t", "a", "", 2}, {"!t ]&a", "", "!t", 2}, {"&a !t ,&b", "a", "!t", 5},
	// none
	{"", "", "", 0}, {"x", "", "", 0}, {"x &a", "", "", 0}, {" &a", "", "", 0}, {"\t!t", "", "", 0}, {"\n&a", "", "", 0}, {"*a", "", "", 0}, {"#&a", "", "", 0}, {"'&a'", "", "", 0}, {"[&a]", "", "", 0}, {",", "", "", 0}, {"%", "", "", 0}, {"a&b", "", "", 0}, {"é", "", "", 0}, {"\xff", "", "", 0}, {"\x00", "", "", 0}, {"＆a", "", "", 0}, {"！t", "", "", 0}, {"\u0126a", "", "", 0}, {"\u0121t", "", "", 0}, {"\xa6a", "", "", 0},
}

// inside are texts with a Flow byte directly behind their properties: within brackets they are read, and elsewhere that byte may not stand there.
var inside = []struct {
	s, anchor, tag string
	to             int
}{
	// an anchor
	{"&a,", "a", "", 2}, {"&a[", "a", "", 2}, {"&a]", "a", "", 2}, {"&a{", "a", "", 2}, {"&a}", "a", "", 2}, {"&a,b", "a", "", 2}, {"&a[b]", "a", "", 2}, {"&a:,", "a:", "", 3}, {"&é]", "é", "", 3}, {"&\xff,", "\xff", "", 2}, {"&a, !t", "a", "", 2}, {"&a,&b", "a", "", 2}, {"&a,&", "a", "", 2},
	// a tag
	{"!,", "", "!", 1}, {"![", "", "!", 1}, {"!]", "", "!", 1}, {"!{", "", "!", 1}, {"!}", "", "!", 1}, {"!t,", "", "!t", 2}, {"!t[a]", "", "!t", 2}, {"!t]", "", "!t", 2}, {"!t{", "", "!t", 2}, {"!t}", "", "!t", 2}, {"!!a{b}", "", "!!a", 3}, {"!<a>,", "", "!<a>", 4}, {"!<a,b>]", "", "!<a,b>", 6}, {"!t, &a", "", "!t", 2}, {"!t,!t", "", "!t", 2}, {"!t,&", "", "!t", 2},
	// both
	{"&a !t,", "a", "!t", 5}, {"!t &a]", "a", "!t", 5}, {"!\t&é]", "é", "!", 5}, {"&a ![b]", "a", "!", 4}, {"! &a{b}", "a", "!", 4}, {"&a !t[&b]", "a", "!t", 5}, {"&a !t{ &b", "a", "!t", 5}, {"&a  !<b>}", "a", "!<b>", 8},
}

// refused are texts with properties that can't stand there, within brackets or not, and where the first thing is that is wrong.
var refused = []struct {
	s  string
	at int
}{
	// no name
	{"&", 0}, {"& ", 0}, {"& x", 0}, {"&\tx", 0}, {"&\n", 0}, {"&\na", 0}, {"&,", 0}, {"&]", 0}, {"&[a]", 0}, {"&{}", 0}, {"&}", 0}, {"& &a", 0}, {"& !t", 0}, {"&,a", 0},
	// nor behind a tag
	{"!t &", 3}, {"!t & x", 3}, {"!t &,", 3}, {"! &\n", 2}, {"!t \t&", 4}, {"!<a> &]", 5}, {"!t & &a", 3}, {"!t & !t", 3},
	// a second anchor
	{"&a &b", 3}, {"&a &a", 3}, {"&a &", 3}, {"&a  & x", 4}, {"&a\t&b !t", 3}, {"&a !t &b", 6}, {"!t &a &b", 6}, {"&a !t &", 6}, {"!t &a\t \t&b", 8}, {"&a &b,", 3}, {"&& &a", 3}, {"&&a &", 4}, {"&é &b", 4},
	// a second tag
	{"!a !b", 3}, {"!t !t", 3}, {"! !", 2}, {"! !t x", 2}, {"!t !", 3}, {"!t\t!{", 3}, {"!t &a !s", 6}, {"&a !t !s", 6}, {"!<a> !<b>", 5}, {"!!a !b", 4}, {"!t  \t!t &a", 5}, {"! !<", 2}, {"&a ! !", 5}, {"!t !t{", 3},
	// and more
	{"&a !t &b !s", 6}, {"!t &a !s &b", 6}, {"&a &b &c", 3}, {"!a !b !c", 3}, {"&a &b !t{", 3},
	// what follows a tag
	{"!<", 1}, {"!<>", 1}, {"!<a", 1}, {"!<a b>", 1}, {"!<a{>", 1}, {"!t>", 2}, {"!<a>b", 4}, {"!<a>>", 4}, {"!<a>!t", 4}, {"!<a>&b", 4}, {"!<a>:", 4},
	{"!a!", 2}, {"!!", 1}, {"!!!", 1}, {"!a!b!c", 4}, {"!!a!b", 3}, {"!e!", 2}, {"!e! &a", 2}, {"!_!a", 2}, {"!%", 1}, {"!%4", 1}, {"!a%zz", 2}, {"!\"a\"", 1}, {"!t\"a\"", 2}, {"!|", 1}, {"!>", 1}, {"!t`", 2}, {"!t\\", 2}, {"!t^", 2}, {"!é", 1}, {"!té", 2}, {"!\xff", 1}, {"!t\x00", 2}, {"!t\r", 2}, {"!t\v", 2}, {"!t\u00a0", 2}, {"!\u0120x", 1}, {"!t\u0109x", 2}, {"!t\u012c", 2}, {"!\u010ax", 1},
	// with others ahead of it or behind
	{"&a !t!", 5}, {"&a !\"b\"", 4}, {"&a !<b", 4}, {"&a !<b>c", 7}, {"&a\t!! x", 4}, {"!! &a &b", 1}, {"!! & x", 1}, {"!<a>b !c", 4},
}

// aliases are texts that begin with one, with its name and the offset after it.
var aliases = []struct {
	s, want string
	to      int
}{
	// the chapter's example
	{"*a:b", "a:b", 4},
	// what ends a name
	{"*a", "a", 2}, {"*a b", "a", 2}, {"*a\tb", "a", 2}, {"*a\nb", "a", 2}, {"*a : b", "a", 2}, {"*a: b", "a:", 3}, {"*a #c", "a", 2}, {"*abc ", "abc", 4}, {"*1", "1", 2},
	{"*a,", "a", 2}, {"*a]", "a", 2}, {"*a}", "a", 2}, {"*a[b]", "a", 2}, {"*a{b}", "a", 2}, {"*a,*b", "a", 2},
	// names of any bytes
	{"**", "*", 2}, {"**a b", "*a", 3}, {"*& a", "&", 2}, {"*&a", "&a", 3}, {"*!t", "!t", 3}, {"*: a", ":", 2}, {"*# a", "#", 2}, {"*a#b", "a#b", 4}, {"*- a", "-", 2}, {"*\"a\"", "\"a\"", 4}, {"*a*b", "a*b", 4}, {"*\\", "\\", 2}, {"*?", "?", 2}, {"*|", "|", 2}, {"*%41", "%41", 4}, {"*<a>", "<a>", 4},
	{"*é,", "é", 3}, {"*\xff a", "\xff", 2}, {"*\x00", "\x00", 2}, {"*a\rb", "a\rb", 4}, {"*\u00a0 ", "\u00a0", 3}, {"*\u2028", "\u2028", 4}, {"*\u0120 ", "\u0120", 3}, {"*\u012c,", "\u012c", 3}, {"*\v", "\v", 2}, {"*\ufeff", "\ufeff", 4},
}

// noAliases are texts that begin with none.
var noAliases = []string{
	// no name
	"", "*", "* ", "* a", "*\ta", "*\n", "*\na", "*,", "*,a", "*[", "*[a]", "*]", "*{", "*{}", "*}", "* *a",
	// no *
	"a", "a*b", " *a", "\t*a", "\n*a", "&a", "!t", "&a *b", "!t *a", "#*a", "'*a'", "[*a]", "-", ",", "é", "\xff", "\xaaa", "\x00", "＊a", "\u012aa", "\u01aa",
}

// samples are all the texts above.
func samples() (all []string) {
	for _, c := range read {
		all = append(all, c.s)
	}
	for _, c := range inside {
		all = append(all, c.s)
	}
	for _, c := range refused {
		all = append(all, c.s)
	}
	for _, c := range aliases {
		all = append(all, c.s)
	}
	return append(all, noAliases...)
}

// ahead are texts ahead of what is read, at which no call looks.
var ahead = []string{"", "x", "&", "&b", "& ", "!", "!t ", "!<", "*", "&b !t ", " ", "\n", "[", ",", "é", "\xff"}

// 14.1: the anchor, the tag, and the offset after the last of them.
func TestRead(t *testing.T) {
	for _, c := range read {
		for _, before := range ahead {
			for _, flow := range []bool{false, true} {
				s, at := before+c.s, len(before)
				if anchor, tag, to, e := prop.Read(s, at, flow); anchor != c.anchor || tag != c.tag || to != at+c.to || e != api.OK {
					t.Errorf("Read(%q, %d, %v) = %q, %q, %d, %d, want %q, %q, %d", s, at, flow, anchor, tag, to, e, c.anchor, c.tag, at+c.to)
				}
			}
			check(t, before+c.s) // that these and the chapter's words agree
		}
	}
}

// 14.1: a Flow byte directly behind a property ends it within brackets, and is wrong elsewhere.
func TestReadInside(t *testing.T) {
	for _, c := range inside {
		for _, before := range ahead {
			s, at := before+c.s, len(before)
			if anchor, tag, to, e := prop.Read(s, at, true); anchor != c.anchor || tag != c.tag || to != at+c.to || e != api.OK {
				t.Errorf("Read(%q, %d, true) = %q, %q, %d, %d, want %q, %q, %d", s, at, anchor, tag, to, e, c.anchor, c.tag, at+c.to)
			}
			if anchor, tag, to, e := prop.Read(s, at, false); anchor != "" || tag != "" || to != at+c.to || e != api.ErrForm {
				t.Errorf("Read(%q, %d, false) = %q, %q, %d, %d, want ErrForm at %d", s, at, anchor, tag, to, e, at+c.to)
			}
			check(t, s)
		}
	}
}

// 14.1: the first thing that is wrong, and where; there is nothing beside it.
func TestReadErrForm(t *testing.T) {
	for _, c := range refused {
		for _, before := range ahead {
			for _, flow := range []bool{false, true} {
				s, at := before+c.s, len(before)
				if anchor, tag, to, e := prop.Read(s, at, flow); anchor != "" || tag != "" || to != at+c.at || e != api.ErrForm {
					t.Errorf("Read(%q, %d, %v) = %q, %q, %d, %d, want ErrForm at %d", s, at, flow, anchor, tag, to, e, at+c.at)
				}
			}
			check(t, before+c.s)
		}
	}
}

// 14.2: the name of an alias, and the offset after it.
func TestAlias(t *testing.T) {
	for _, c := range aliases {
		for _, before := range ahead {
			s, at := before+c.s, len(before)
			if got, to, e := prop.Alias(s, at); got != c.want || to != at+c.to || e != api.OK {
				t.Errorf("Alias(%q, %d) = %q, %d, %d, want %q, %d", s, at, got, to, e, c.want, at+c.to)
			}
			check(t, s)
		}
	}
}

// 14.2: what is no alias is wrong at at; there is nothing beside the code.
func TestAliasErrForm(t *testing.T) {
	for _, text := range noAliases {
		for _, before := range ahead {
			s, at := before+text, len(before)
			if got, to, e := prop.Alias(s, at); got != "" || to != at || e != api.ErrForm {
				t.Errorf("Alias(%q, %d) = %q, %d, %d, want ErrForm at %d", s, at, got, to, e, at)
			}
			check(t, s)
		}
	}
}

// 14.1, 14.2, 14.4: where s has no byte stands neither a property nor an alias, and at comes back.
func TestFarPlaces(t *testing.T) {
	for _, s := range []string{"", "&a", "!t", "*a", "&", "!t &a", "&a ", "x\n"} {
		for _, at := range []int{math.MinInt, math.MinInt + 1, math.MinInt32, -len(s) - 1, -2, -1, len(s), len(s) + 1, 2*len(s) + 2, math.MaxInt32, math.MaxInt - 1, math.MaxInt} {
			for _, flow := range []bool{false, true} {
				if anchor, tag, to, e := prop.Read(s, at, flow); anchor != "" || tag != "" || to != at || e != api.OK {
					t.Errorf("Read(%q, %d, %v) = %q, %q, %d, %d, want nothing", s, at, flow, anchor, tag, to, e)
				}
			}
			if got, to, e := prop.Alias(s, at); got != "" || to != at || e != api.ErrForm {
				t.Errorf("Alias(%q, %d) = %q, %d, %d, want ErrForm", s, at, got, to, e)
			}
		}
	}
}

// 14.1, 14.2, 14.4: every text of up to so many parts of those of which properties and aliases are made.
func TestEveryText(t *testing.T) {
	every([]string{"&", "!", "a", " ", ","}, 7, func(s string) { checkAt(t, s, 0) })
	every([]string{"&a", "!t", "&", " ", "\t", "\n", "]"}, 6, func(s string) { checkAt(t, s, 0) })
	every([]string{"&a ", "!t ", "! ", "& ", "!<b> ", " ", "x"}, 6, func(s string) { checkAt(t, s, 0) })
	every([]string{"!", "<", ">", "%41", "&", " ", "{", "a"}, 5, func(s string) { checkAt(t, s, 0); checkAt(t, "&b "+s, 0) })
	every([]string{"*", "a", " ", "\n", ",", "[", "&", "!"}, 5, func(s string) { check(t, s) })
	every([]string{"&", "*", "!", "!!", "!e!", "!<", ">", "a", "%4", " ", "\t", "\n", ",", "[", "]", "{", "}", ":", "#", "-", "é", "\xff", "\x00", "\u0120"}, 4, func(s string) { checkAt(t, s, 0) })
}

// 14.1, 14.2, 14.4: every text of one and of two bytes, alone and where properties and aliases begin and end.
func TestEveryPairOfBytes(t *testing.T) {
	for a := range 0x100 {
		check(t, string([]byte{byte(a)}))
		for b := range 0x100 {
			pair := string([]byte{byte(a), byte(b)})
			for _, before := range []string{"", "&", "&a", "&a ", "!", "!t", "!t ", "!<a>", "!<a> ", "&a !t", "!t &a", "&a !t ", "!t &", "*", "*a"} {
				checkAt(t, before+pair, 0)
			}
			for _, c := range []struct{ before, after string }{{"", "a"}, {"&", "a"}, {"&a", "!t"}, {"!t", "&a"}, {"&a", "&b"}, {"!t", "!s"}, {"&a !t", "&b"}, {"*", "a"}} {
				checkAt(t, c.before+pair+c.after, 0)
			}
		}
	}
}

// 14.1, 14.2, 14.4: every byte, and runes whose last byte could stand there, ahead of, within and behind each of the samples, and in the place of each of their bytes; and each sample cut, and without one of its bytes.
func TestEveryByte(t *testing.T) {
	var others []string
	for i := range 0x100 {
		others = append(others, string([]byte{byte(i)}), string(rune(0x100+i)))
	}
	for _, s := range samples() {
		for at := range len(s) + 1 {
			behind := s[min(at+1, len(s)):]
			checkAt(t, s[:at], 0)
			checkAt(t, s[at:], 0)
			checkAt(t, s[:at]+behind, 0)
			for _, o := range others {
				checkAt(t, s[:at]+o+s[at:], 0)
				checkAt(t, s[:at]+o+behind, 0)
			}
		}
	}
}

// 14.3 (W1): at every place there are properties, or none, with the offset after them, or ErrForm at a place from there on with nothing beside it; and an alias, or ErrForm at that place.
func TestEitherOr(t *testing.T) {
	every([]string{"&", "!", "*", "a", "<", ">", " ", "\n", ","}, 5, func(s string) {
		for at := range len(s) + 1 {
			for _, flow := range []bool{false, true} {
				anchor, tag, to, e := prop.Read(s, at, flow)
				none := anchor == "" && tag == ""
				if to < at || to > len(s) || e == api.OK && none != (to == at) || e != api.OK && (!none || e != api.ErrForm) {
					t.Fatalf("Read(%q, %d, %v) = %q, %q, %d, %d", s, at, flow, anchor, tag, to, e)
				}
			}
			got, to, e := prop.Alias(s, at)
			if e == api.OK && (got == "" || s[at:to] != "*"+got) || e != api.OK && (got != "" || to != at || e != api.ErrForm) {
				t.Fatalf("Alias(%q, %d) = %q, %d, %d", s, at, got, to, e)
			}
		}
	})
}

// 14.3 (W2): properties that are written as they were read are read as the same ones, in whichever order and with whatever White between; and an alias with the name of an anchor is read as that name.
func TestKeepsMeaning(t *testing.T) {
	for _, c := range slices.Concat(read, inside) {
		forms := []string{}
		for _, gap := range []string{" ", "\t", " \t  "} {
			switch {
			case c.anchor != "" && c.tag != "":
				forms = append(forms, "&"+c.anchor+gap+c.tag, c.tag+gap+"&"+c.anchor)
			case c.anchor != "":
				forms = append(forms, "&"+c.anchor)
			default:
				forms = append(forms, c.tag)
			}
		}
		for _, form := range forms {
			for _, behind := range []string{"", " x", "\n", "\t#"} {
				for _, flow := range []bool{false, true} {
					if anchor, tag, to, e := prop.Read(form+behind, 0, flow); anchor != c.anchor || tag != c.tag || to != len(form) || e != api.OK {
						t.Errorf("Read(%q, 0, %v) = %q, %q, %d, %d, and it is what Read(%q) answers", form+behind, flow, anchor, tag, to, e, c.s)
					}
				}
			}
		}
		if got, to, e := prop.Alias("*"+c.anchor+" x", 0); c.anchor != "" && (got != c.anchor || to != len(c.anchor)+1 || e != api.OK) {
			t.Errorf("Alias of %q = %q, %d, %d", c.anchor, got, to, e)
		}
	}
}

// 14.1, 14.2, 14.4: long properties and aliases, much White between and behind, and many properties.
func TestLong(t *testing.T) {
	const n = 1 << 18
	a, gap, codes := strings.Repeat("a", n), strings.Repeat(" \t", n), strings.Repeat("%c3%A9", n)
	for _, s := range []string{"&" + a, "&" + a + gap, "&" + a + gap + "!" + a, "!" + a + gap + "&" + a + gap + "x", "&" + a + " !" + codes, "!<" + codes + ">" + gap + "&" + a, "!<" + a, "!" + a + "!" + a, "!" + a + "!", "&" + a + gap + "&" + a, "!t" + gap + "!" + a, "&" + a + ",", "!" + a + "]", "&" + a + gap + "!" + a + "}", gap + "&a", strings.Repeat("&", n), strings.Repeat("!", n), strings.Repeat("&a ", n), strings.Repeat("!t ", n), strings.Repeat("!t &a ", n), strings.Repeat("& ", n), "&" + strings.Repeat("é\xff", n) + gap + "!" + codes + "\n",
		"*" + a, "*" + a + gap, "*" + a + ",", "*" + strings.Repeat("é\xff", n) + "\n", strings.Repeat("*", n), strings.Repeat("*a ", n)} {
		for _, flow := range []bool{false, true} {
			anchor, tag, to, e := prop.Read(s, 0, flow)
			if wantAnchor, wantTag, wantTo, f := wantRead(s, 0, flow); anchor != wantAnchor || tag != wantTag || to != wantTo || e != f {
				t.Errorf("Read(%.12q.., 0, %v) has %d bytes, %d bytes, %d, %d, want %d, %d, %d, %d", s, flow, len(anchor), len(tag), to, e, len(wantAnchor), len(wantTag), wantTo, f)
			}
		}
		got, to, e := prop.Alias(s, 0)
		if want, wantTo, f := wantAlias(s, 0); got != want || to != wantTo || e != f {
			t.Errorf("Alias(%.12q.., 0) has %d bytes, %d, %d, want %d, %d, %d", s, len(got), to, e, len(want), wantTo, f)
		}
	}
}

// 14.1, 14.2: what is answered has memory of its own, which it shares with no argument.
func TestOwnMemory(t *testing.T) {
	for _, text := range samples() {
		s := strings.Clone(text)
		for _, flow := range []bool{false, true} {
			if anchor, tag, _, _ := prop.Read(s, 0, flow); shares(anchor, s) || shares(tag, s) {
				t.Errorf("Read(%q, 0, %v) = %q, %q: the memory is %v, %v that of the text", s, flow, anchor, tag, shares(anchor, s), shares(tag, s))
			}
		}
		if got, _, _ := prop.Alias(s, 0); shares(got, s) {
			t.Errorf("Alias(%q, 0) = %q: the memory is that of the text", s, got)
		}
	}
}

// shares reports whether s begins within the memory of t.
func shares(s, t string) bool {
	if s == "" || t == "" {
		return false
	}
	at, from := uintptr(unsafe.Pointer(unsafe.StringData(s))), uintptr(unsafe.Pointer(unsafe.StringData(t)))
	return from <= at && at < from+uintptr(len(t))
}
