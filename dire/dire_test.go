package dire_test

import (
	"regexp"
	"slices"
	"strings"
	"testing"
	"unsafe"

	"bosket/api"
	"bosket/dire"
	"bosket/hand"
)

// The chapter's words for a row, and for the directives that have a form of their own.
const (
	handle = `(?:!|!!|![a-zA-Z0-9\-]+!)`
	code   = `%[0-9a-fA-F]{2}`
	uri    = `[a-zA-Z0-9\-#;/?:@&=+$_.!~*'(),\[\]]`
	first  = `[a-zA-Z0-9\-#;/?:@&=+$_.!~*'()]`
)

var (
	whole = regexp.MustCompile(`\A(%[^ \t]+(?:[ \t]+[^ \t#][^ \t]*)*)(?:[ \t]+(#(?s:.*))|[ \t]*)\z`)
	gap   = regexp.MustCompile(`[ \t]+`)
	yaml  = regexp.MustCompile(`\A%YAML 1\.[0-9]+\z`)
	tag   = regexp.MustCompile(`\A%TAG (` + handle + `) ((?:` + first + `|` + code + `)(?:` + uri + `|` + code + `)*)\z`)
)

// wantRead works Read out from the chapter's words.
func wantRead(row string) (string, string, bool, api.Errno) {
	found := whole.FindStringSubmatch(row)
	if found == nil {
		return "", "", false, api.ErrForm
	}
	d := gap.ReplaceAllString(found[1], " ")
	name, _, _ := strings.Cut(d, " ")
	if name == "%YAML" && !yaml.MatchString(d) || name == "%TAG" && !tag.MatchString(d) {
		return "", "", false, api.ErrForm
	}
	if found[2] == "" {
		return d, "", false, api.OK
	}
	return d, strings.TrimRight(found[2][1:], " \t"), true, api.OK
}

// wantTwice works Twice out from the chapter's words.
func wantTwice(dirs []string, d string) bool {
	return slices.ContainsFunc(dirs, func(dir string) bool {
		a, b := fields(dir), fields(d)
		switch {
		case len(a) == 0 || len(b) == 0 || a[0] != b[0]:
			return false
		case a[0] == "%YAML":
			return true
		}
		return a[0] == "%TAG" && len(a) > 1 && len(b) > 1 && a[1] == b[1]
	})
}

// fields returns the words of s.
func fields(s string) []string {
	return strings.FieldsFunc(s, func(r rune) bool { return r == ' ' || r == '\t' })
}

// check holds Read against the chapter's words for row.
func check(t *testing.T, row string) {
	t.Helper()
	got, text, has, e := dire.Read(row)
	want, wantText, wantHas, f := wantRead(row)
	if got != want || text != wantText || has != wantHas || e != f {
		t.Fatalf("Read(%q) = %q, %q, %v, %d, want %q, %q, %v, %d", row, got, text, has, e, want, wantText, wantHas, f)
	}
}

// checkTwice holds Twice against the chapter's words, and that it changes none of dirs.
func checkTwice(t *testing.T, dirs []string, d string) {
	t.Helper()
	before := slices.Clone(dirs)
	if got, want := dire.Twice(dirs, d), wantTwice(dirs, d); got != want {
		t.Fatalf("Twice(%q, %q) = %v, want %v", dirs, d, got, want)
	}
	if !slices.Equal(dirs, before) {
		t.Fatalf("Twice(%q, %q) has made them %q", before, d, dirs)
	}
}

// every calls use with all texts of at most most of these parts.
func every(parts []string, most int, use func(string)) {
	var longer func(string, int)
	longer = func(s string, n int) {
		use(s)
		if n == most {
			return
		}
		for _, p := range parts {
			longer(s+p, n+1)
		}
	}
	longer("", 0)
}

// read are rows that have a directive, with that one and its comment.
var read = []struct {
	row, want, text string
	has             bool
}{
	{"%TAG  ! x: # c", "%TAG ! x:", " c", true},                                                                                                                                                                                                                                                                   // the chapter's example
	{row: "%X", want: "%X"}, {row: "%%", want: "%%"}, {row: "%%YAML", want: "%%YAML"}, {row: "%#", want: "%#"}, {row: "%#YAML", want: "%#YAML"}, {row: "%é", want: "%é"}, {row: "%\xff", want: "%\xff"}, {row: "%\x00", want: "%\x00"}, {row: "%-", want: "%-"}, {row: "%1", want: "%1"}, {row: "%!", want: "%!"}, // one word
	{row: "%X a", want: "%X a"}, {row: "%X a b c d", want: "%X a b c d"}, {row: "%X  a   b", want: "%X a b"}, {row: "%X\ta\t\tb", want: "%X a b"}, {row: "%X \t a\t b", want: "%X a b"}, {row: "%X %YAML 1.2", want: "%X %YAML 1.2"}, {row: "%X %", want: "%X %"}, {row: "%X a a", want: "%X a a"}, // several
	{row: "%X ", want: "%X"}, {row: "%X\t", want: "%X"}, {row: "%X a \t ", want: "%X a"}, {row: "%YAML 1.2 ", want: "%YAML 1.2"}, {row: "%TAG ! x\t", want: "%TAG ! x"}, // White at the end
	{row: "%X \xff", want: "%X \xff"}, {row: "%X \xc3 \xa9", want: "%X \xc3 \xa9"}, {row: "%X \u00a0 \u2028", want: "%X \u00a0 \u2028"}, {row: "%X\u00a0a", want: "%X\u00a0a"}, {row: "%X\u3000a", want: "%X\u3000a"}, {row: "%X\u0085a", want: "%X\u0085a"}, {row: "%X\va\fb", want: "%X\va\fb"}, {row: "%X\u0120a\u0109b", want: "%X\u0120a\u0109b"}, {row: "%X \u0123 a", want: "%X \u0123 a"}, {row: "%X ＃ a", want: "%X ＃ a"}, // what is no White, and no #
	{"%X #", "%X", "", true}, {"%X # ", "%X", "", true}, {"%X #\t \t", "%X", "", true}, {"%X #c", "%X", "c", true}, {"%X\t#c", "%X", "c", true}, {"%X  \t #c", "%X", "c", true}, {"%X a #c", "%X a", "c", true}, {"%X # c ", "%X", " c", true}, {"%X #\tc\t", "%X", "\tc", true}, {"%X #  a b  \tc \t ", "%X", "  a b  \tc", true}, // comments
	{"%X ##", "%X", "#", true}, {"%X # #", "%X", " #", true}, {"%X # c # d", "%X", " c # d", true}, {"%X #c #", "%X", "c #", true}, {"%X a # b # c", "%X a", " b # c", true}, {"%X #é\xff", "%X", "é\xff", true}, {"%X #\u00a0", "%X", "\u00a0", true}, {"%X #c\u2028 ", "%X", "c\u2028", true}, {"%X #c\v", "%X", "c\v", true}, {"%X #\x00 ", "%X", "\x00", true}, {"%X #c\u0120", "%X", "c\u0120", true}, {"%X #%YAML 1.2", "%X", "%YAML 1.2", true}, // with more # within
	{row: "%X#", want: "%X#"}, {row: "%X#c", want: "%X#c"}, {row: "%X a#", want: "%X a#"}, {row: "%X a#b#c", want: "%X a#b#c"}, {"%X a#b #c", "%X a#b", "c", true}, {"%X# #", "%X#", "", true}, {row: "%X\u00a0#c", want: "%X\u00a0#c"}, {row: "%X\u0120#c", want: "%X\u0120#c"}, {row: "%X é#c", want: "%X é#c"}, {row: "%X \xff#c", want: "%X \xff#c"}, // a # within a word
	{row: "%YAML 1.2", want: "%YAML 1.2"}, {row: "%YAML 1.0", want: "%YAML 1.0"}, {row: "%YAML 1.1", want: "%YAML 1.1"}, {row: "%YAML 1.9", want: "%YAML 1.9"}, {row: "%YAML 1.00", want: "%YAML 1.00"}, {row: "%YAML 1.0123456789", want: "%YAML 1.0123456789"}, {row: "%YAML \t 1.3\t", want: "%YAML 1.3"}, {row: "%YAML\t1.2", want: "%YAML 1.2"}, // versions
	{"%YAML 1.2 # c", "%YAML 1.2", " c", true}, {"%YAML 1.2\t#", "%YAML 1.2", "", true}, {"%YAML 1.2 #c 3", "%YAML 1.2", "c 3", true},
	{row: "%TAG ! x", want: "%TAG ! x"}, {row: "%TAG !! x", want: "%TAG !! x"}, {row: "%TAG !e! x", want: "%TAG !e! x"}, {row: "%TAG !-! x", want: "%TAG !-! x"}, {row: "%TAG !a-1-Z! x", want: "%TAG !a-1-Z! x"}, {row: "%TAG !0! x", want: "%TAG !0! x"}, {row: "%TAG\t!\tx\t", want: "%TAG ! x"}, // handles
	{row: "%TAG ! tag:yaml.org,2002:", want: "%TAG ! tag:yaml.org,2002:"}, {row: "%TAG ! !", want: "%TAG ! !"}, {row: "%TAG ! !a!b", want: "%TAG ! !a!b"}, {row: "%TAG ! a,[b]", want: "%TAG ! a,[b]"}, {row: "%TAG ! a#b#", want: "%TAG ! a#b#"}, {row: "%TAG ! ;/?:@&=+$_.!~*'()-,[]#", want: "%TAG ! ;/?:@&=+$_.!~*'()-,[]#"}, {row: "%TAG ! 0", want: "%TAG ! 0"}, {row: "%TAG ! :", want: "%TAG ! :"}, // prefixes
	{row: "%TAG ! %41", want: "%TAG ! %41"}, {row: "%TAG ! %aF%Fa", want: "%TAG ! %aF%Fa"}, {row: "%TAG ! a%00b", want: "%TAG ! a%00b"}, {row: "%TAG ! %ff", want: "%TAG ! %ff"}, {row: "%TAG ! %5b", want: "%TAG ! %5b"}, {row: "%TAG ! a%411", want: "%TAG ! a%411"}, // with codes, which are kept
	{"%TAG ! x #", "%TAG ! x", "", true}, {"%TAG ! x # y", "%TAG ! x", " y", true}, {"%TAG ! x# #y", "%TAG ! x#", "y", true}, {"%TAG !e! %41\t#\ty ", "%TAG !e! %41", "\ty", true},
	{row: "%YAMLS", want: "%YAMLS"}, {row: "%YAM 2", want: "%YAM 2"}, {row: "%yaml", want: "%yaml"}, {row: "%Yaml 2.0", want: "%Yaml 2.0"}, {row: "%YAML# 2", want: "%YAML# 2"}, {row: "%YAML1.2", want: "%YAML1.2"}, {row: "%TAGS a", want: "%TAGS a"}, {row: "%TA", want: "%TA"}, {row: "%tag a b c", want: "%tag a b c"}, {row: "%TAG! x", want: "%TAG! x"}, {row: "%TAG# x", want: "%TAG# x"}, {row: "%X %TAG", want: "%X %TAG"}, {row: "%%TAG", want: "%%TAG"}, {row: "%YAML\u00a02", want: "%YAML\u00a02"}, // other first words, of which nothing is asked
}

// 10.1: the directive, the text of the comment, and whether there is one.
func TestRead(t *testing.T) {
	for _, c := range read {
		got, text, has, e := dire.Read(c.row)
		if got != c.want || text != c.text || has != c.has || e != api.OK {
			t.Errorf("Read(%q) = %q, %q, %v, %d, want %q, %q, %v", c.row, got, text, has, e, c.want, c.text, c.has)
		}
		check(t, c.row) // that these and the chapter's words agree
	}
}

// refused are rows that have no directive.
var refused = []string{
	"", " ", "\t", "a", "#", "# c", "YAML 1.2", "TAG ! x", "é", "\xff", "\x00", " # c", "---", "...", "％X", // no % at the beginning
	" %X", "\t%X", " %YAML 1.2", "  %TAG ! x", "\ufeff%X", "a%X", "#%X", "\\%X", "\n%X",
	"%", "% ", "%\t", "% X", "%\tX", "% YAML 1.2", "%  TAG ! x", "% #", "% # c", "%\t#c", "% %", "% #X", // nothing behind the %
	"%YAML", "%YAML ", "%YAML\t", "%YAML #", "%YAML # 1.2", "%YAML #1.2", "%YAML\t#c", // no version
	"%YAML 2.0", "%YAML 2.1", "%YAML 0.2", "%YAML 1", "%YAML 1.", "%YAML .2", "%YAML 1.a", "%YAML 1.2a", "%YAML 1.a2", "%YAML 1.2.3", "%YAML 11.2", "%YAML 01.2", "%YAML 1,2", "%YAML 1.-2", "%YAML 1.+2", "%YAML +1.2", "%YAML -1.2", "%YAML a", "%YAML 1.2#", "%YAML 1.2#c", "%YAML 1.#", "%YAML 1. 2", "%YAML 1 .2", "%YAML 1 2", "%YAML 1.0x2", "%YAML 1.1_0", "%YAML 1.1e1", "%YAML v1.2", "%YAML !", "%YAML %", "%YAML 1.٢", "%YAML 1.２", "%YAML １.2", "%YAML 1.²", "%YAML 1.é", "%YAML 1.2\xff", "%YAML 1.\u0132", "%YAML 1.2\u00a0", "%YAML 1.2\x00", "%YAML 1.2\v", // a wrong one
	"%YAML 1.2 1.2", "%YAML 1.2 3", "%YAML 1.2 a #c", "%YAML 1.2 \xff", "%YAML 1.2 a b", "%YAML a 1.2", "%YAML 1.2 a#", // too many words
	"%TAG", "%TAG ", "%TAG #", "%TAG !", "%TAG ! ", "%TAG !!", "%TAG !e!", "%TAG x", "%TAG !e!x", "%TAG ! #", "%TAG ! # x", "%TAG ! #x", "%TAG # ! x", "%TAG #! x", "%TAG !! #c", // too few
	"%TAG ! x y", "%TAG ! x x", "%TAG !! x y #c", "%TAG ! x y z", "%TAG ! ! x", "%TAG %TAG ! x", "%TAG ! x %", "%TAG ! x y#", // too many
	"%TAG a x", "%TAG e! x", "%TAG a!b x", "%TAG !e x", "%TAG !<a> x", "%TAG !<a>! x", "%TAG !<! x", "%TAG !!e x", "%TAG !!! x", "%TAG !!e! x", "%TAG !e!! x", "%TAG !e!f! x", "%TAG !e!f x", "%TAG !a_! x", "%TAG !_! x", "%TAG !a.b! x", "%TAG !a:! x", "%TAG !%41! x", "%TAG !é! x", "%TAG !\xff! x", "%TAG !\u0161! x", "%TAG !a\u0121 x", "%TAG !e！ x", "%TAG ！ x", "%TAG !# x", "%TAG !#! x", "%TAG !,! x", "%TAG ![]! x", "%TAG % x", "%TAG !' x", "%TAG !\x00! x", "%TAG !! !! x", "%TAG !\v x", // a wrong handle
	"%TAG ! ,", "%TAG ! ,x", "%TAG ! [", "%TAG ! [x", "%TAG ! ]", "%TAG ! ]x", "%TAG ! {", "%TAG ! {x", "%TAG ! }", "%TAG ! }x", "%TAG ! {x}", // a Flow byte at the beginning
	"%TAG ! x{", "%TAG ! x}", "%TAG ! x{}", "%TAG ! x>", "%TAG ! x>y", "%TAG ! >", "%TAG ! x>>", "%TAG ! <", "%TAG ! x<y", "%TAG ! <x>", "%TAG ! \"", "%TAG ! x\"", "%TAG ! x|y", "%TAG ! \\", "%TAG ! x\\", "%TAG ! x^", "%TAG ! `", "%TAG ! é", "%TAG ! xé", "%TAG ! \xff", "%TAG ! x\xff", "%TAG ! x\x00", "%TAG ! x\x7f", "%TAG ! \u0161", "%TAG ! x\u0121", "%TAG ! x\u013e", "%TAG ! x\u00a0", "%TAG ! x\v", // no Uri byte
	"%TAG ! %", "%TAG ! %4", "%TAG ! %4g", "%TAG ! %g4", "%TAG ! %%", "%TAG ! %%41", "%TAG ! %4%41", "%TAG ! x%", "%TAG ! x%4", "%TAG ! x%zz", "%TAG ! x%4 1", "%TAG ! x%4#", "%TAG ! %41%", "%TAG ! x%4é", "%TAG ! x%é4", "%TAG ! x%4\u0131", "%TAG ! x%-4", "%TAG ! %,4", // a % without its digits
}

// 10.1: what is no directive; there is nothing beside the code.
func TestReadErrForm(t *testing.T) {
	for _, row := range refused {
		if got, text, has, e := dire.Read(row); got != "" || text != "" || has || e != api.ErrForm {
			t.Errorf("Read(%q) = %q, %q, %v, %d, want ErrForm", row, got, text, has, e)
		}
		check(t, row)
	}
}

// 10.2: what repeats a directive, written out.
func TestTwice(t *testing.T) {
	for _, c := range []struct {
		dirs []string
		d    string
		want bool
	}{
		{[]string{"%YAML 1.2"}, "%YAML 1.2", true}, {[]string{"%YAML 1.1"}, "%YAML 1.2", true}, {[]string{"%X", "%TAG ! x", "%YAML 1.1"}, "%YAML 1.2", true}, {[]string{"%YAML 1.1", "%X"}, "%YAML 1.2", true}, {[]string{"%YAML 1.1", "%YAML 1.2"}, "%YAML 1.3", true}, // the same name
		{nil, "%YAML 1.2", false}, {[]string{}, "%YAML 1.2", false}, {[]string{"%X"}, "%YAML 1.2", false}, {[]string{"%TAG ! x", "%X %YAML 1.2"}, "%YAML 1.2", false}, {[]string{"%YAMLS 1.2", "%YAM 1.2", "%yaml 1.2", "%YAML1.2", "YAML 1.2"}, "%YAML 1.2", false}, {[]string{"%YAML 1.2"}, "%YAMLS 1.2", false}, {[]string{"%YAML 1.2"}, "%YAM 1.2", false}, {[]string{"%YAML 1.2"}, "%TAG ! x", false}, {[]string{"%YAML 1.2"}, "%X", false},
		{[]string{"%TAG ! x"}, "%TAG ! x", true}, {[]string{"%TAG ! x"}, "%TAG ! y", true}, {[]string{"%TAG !! x"}, "%TAG !! y", true}, {[]string{"%TAG !e! x"}, "%TAG !e! y", true}, {[]string{"%YAML 1.2", "%TAG ! x", "%TAG !e! x", "%X"}, "%TAG !e! y", true}, {[]string{"%TAG !e! x", "%TAG ! x"}, "%TAG !e! y", true}, // the same name and handle
		{nil, "%TAG ! x", false}, {[]string{"%TAG ! x"}, "%TAG !! x", false}, {[]string{"%TAG !! x"}, "%TAG ! x", false}, {[]string{"%TAG !e! x"}, "%TAG !E! x", false}, {[]string{"%TAG !e! x"}, "%TAG !ee! x", false}, {[]string{"%TAG !ee! x"}, "%TAG !e! x", false}, {[]string{"%TAG ! !e!"}, "%TAG !e! !", false}, {[]string{"%TAG ! !!"}, "%TAG !! !!", false}, {[]string{"%TAGS ! x", "%TA ! x", "%tag ! x", "%X ! x", "%X %TAG ! x", "%YAML 1.2", "TAG ! x"}, "%TAG ! x", false}, {[]string{"%TAG ! x"}, "%TAGS ! x", false}, {[]string{"%TAG ! x"}, "%TA ! x", false}, // another one
		{[]string{"%X"}, "%X", false}, {[]string{"%X a"}, "%X a", false}, {[]string{"%X ! x"}, "%X ! x", false}, {[]string{"%yaml 1.2"}, "%yaml 1.2", false}, {[]string{"%"}, "%", false}, {[]string{""}, "", false}, {[]string{"", "%X"}, "", false}, {[]string{"a"}, "a", false}, {[]string{"YAML"}, "YAML", false}, // other names may be repeated
		{[]string{"%YAML"}, "%YAML", true}, {[]string{"%YAML"}, "%YAML 1.2", true}, {[]string{"%YAML a b"}, "%YAML\t2", true}, {[]string{"%TAG !"}, "%TAG !", true}, {[]string{"%TAG\t! x"}, "%TAG  !", true}, {[]string{"%TAG a b c"}, "%TAG a", true}, {[]string{"%TAG"}, "%TAG", false}, {[]string{"%TAG "}, "%TAG", false}, {[]string{"%TAG"}, "%TAG !", false}, {[]string{"%TAG !"}, "%TAG", false}, {[]string{"%TAG\u00a0! x"}, "%TAG ! x", false}, {[]string{"%TAG !\u00a0x"}, "%TAG ! x", false}, {[]string{"%TAG \xff x"}, "%TAG \xff y", true}, {[]string{"%TAG \xff x"}, "%TAG \ufffd x", false}, {[]string{"%TAG \xff x"}, "%TAG \xfe x", false}, // what Read would not answer
	} {
		if got := dire.Twice(c.dirs, c.d); got != c.want {
			t.Errorf("Twice(%q, %q) = %v, want %v", c.dirs, c.d, got, c.want)
		}
		checkTwice(t, c.dirs, c.d)
	}
}

// 10.2, 10.1: what White separates are words, whatever they begin with: a word that begins with # begins a comment, and is one.
func TestTwiceCommentWords(t *testing.T) {
	for _, c := range []struct {
		dirs []string
		d    string
		want bool
	}{
		{[]string{"%TAG #a"}, "%TAG #a", true}, {[]string{"%TAG #! x"}, "%TAG\t#! y", true}, {[]string{"%X", "%TAG # b"}, "%TAG #", true}, {[]string{"%TAG #"}, "%TAG # ", true}, {[]string{"%TAG  ## #"}, "%TAG\t \t##\t", true}, {[]string{"%TAG #é x"}, "%TAG #é y", true}, {[]string{"%TAG #\xff"}, "%TAG #\xff", true}, // the second word
		{[]string{"%TAG #a"}, "%TAG #b", false}, {[]string{"%TAG a"}, "%TAG #a", false}, {[]string{"%TAG #a"}, "%TAG a", false}, {[]string{"%TAG # a"}, "%TAG #a", false}, {[]string{"%TAG ## a"}, "%TAG # a", false}, {[]string{"%TAG #a"}, "%TAG #", false}, {[]string{"%TAG #"}, "%TAG", false}, {[]string{"%TAG"}, "%TAG #", false}, {[]string{"%TAG #a"}, "%TAG", false}, {[]string{"%TAG #\xff"}, "%TAG #\xfe", false}, {[]string{"%TAG#a"}, "%TAG #a", false}, {[]string{"%TAG# !"}, "%TAG# !", false}, // another one, or none
		{[]string{"%TAG ! #a"}, "%TAG ! #b", true}, {[]string{"%TAG ! x #a"}, "%TAG !", true}, {[]string{"%TAG ! # #"}, "%TAG !! # #", false}, // further behind
		{[]string{"#a %TAG"}, "#a %TAG", false}, {[]string{"# %TAG !"}, "# %TAG !", false}, {[]string{"# %YAML"}, "# %YAML", false}, {[]string{"# %YAML 1.2"}, "%YAML 1.2", false}, {[]string{"%YAML 1.2"}, "# %YAML 1.2", false}, {[]string{"#%TAG !"}, "%TAG !", false}, {[]string{"#"}, "#", false}, {[]string{"%X #a"}, "%X #a", false}, // the first word
		{[]string{"%YAML #a"}, "%YAML #b", true}, {[]string{"%YAML #"}, "%YAML", true}, {[]string{"%YAML# 1"}, "%YAML# 1", false}, {[]string{"%YAML#"}, "%YAML #", false}, // of %YAML no second word is asked
	} {
		if got := dire.Twice(c.dirs, c.d); got != c.want {
			t.Errorf("Twice(%q, %q) = %v, want %v", c.dirs, c.d, got, c.want)
		}
		checkTwice(t, c.dirs, c.d)
	}
}

// 10.2, 10.4: every byte, and runes whose last byte could be one of White, within the words of both texts.
func TestTwiceEveryByte(t *testing.T) {
	for i := range 0x100 {
		for _, b := range []string{string([]byte{byte(i)}), string(rune(0x100 + i))} {
			for _, before := range []string{"", "%", "%TAG", "%TAG ", "%TAG\t", "%TAG a", "%TAG #", "%TAG ! ", "%YAML", "%YAML ", "%X "} {
				for _, after := range []string{"", "a", " a", "#", " #", "%TAG !", "TAG #"} {
					one := before + b + after
					for _, other := range []string{one, one + " x", "%TAG", "%TAG ! x", "%TAG #", "%TAG a", "%TAG #a", before + after, before + " " + b} {
						checkTwice(t, []string{one}, other)
						checkTwice(t, []string{"%X", other, ""}, one)
					}
				}
			}
		}
	}
}

// 10.2, 10.4: every text of up to three words and gaps against each other, and with others ahead and behind.
func TestTwiceEveryPair(t *testing.T) {
	var texts []string
	every([]string{"%YAML", "%TAG", "%X", "!", "!e!", " ", "\t", "#", "\xff"}, 3, func(s string) { texts = append(texts, s) })
	for _, name := range []string{"%TAG ", "%TAG\t ", "%YAML "} {
		every([]string{"#", "!", "a", " "}, 3, func(s string) { texts = append(texts, name+s) })
	}
	for _, c := range read {
		texts = append(texts, c.want)
	}
	for _, d := range texts {
		for _, dir := range texts {
			checkTwice(t, []string{dir}, d)
		}
	}
	for _, d := range []string{"%YAML 1.2", "%TAG ! x", "%TAG !e! x", "%X a", ""} {
		for i, dir := range texts {
			other := texts[(i*7+3)%len(texts)]
			checkTwice(t, []string{dir, other}, d)
			checkTwice(t, []string{other, "%X", dir, ""}, d)
		}
	}
}

// 10.1, 10.4: every row of up to so many parts of those of which directives are made.
func TestEveryRow(t *testing.T) {
	every([]string{"%", "X", " ", "\t", "#"}, 8, func(s string) { check(t, s) })
	every([]string{"%X", "%", " ", "\t", "#", "a", "é", "\xff"}, 6, func(s string) { check(t, s) })
	every([]string{"%YAML", " ", "1", ".", "2", "#", "a"}, 6, func(s string) { check(t, s) })
	every([]string{"1", ".", "0", "9", " ", "#", "-", "a", "\xff"}, 5, func(s string) { check(t, "%YAML "+s) })
	every([]string{"%TAG", "%TAG ", "!", " ", "#", "e"}, 7, func(s string) { check(t, s) })
	every([]string{"!", "!!", "!e!", "e", "<", ">", "-", "_", "%41", " x", "#", ","}, 4, func(s string) { check(t, "%TAG "+s); check(t, "%TAG "+s+" x") })
	every([]string{"!", "x", ",", "{", "]", ">", "%", "%41", "4", "F", "g", " ", "#", "é"}, 4, func(s string) { check(t, "%TAG ! "+s) })
	every([]string{"%TAG", "%YAML", "%X", "%", "!", "!e!", "1.2", "tag:", " ", "\t", " # ", "#", "\u0120", "\u0123", "\x00"}, 4, func(s string) { check(t, s) })
}

// 10.1, 10.4: every row of one and of two bytes, and these where the parts of a directive stand.
func TestEveryPairOfBytes(t *testing.T) {
	for a := range 0x100 {
		check(t, string([]byte{byte(a)}))
		for b := range 0x100 {
			pair := string([]byte{byte(a), byte(b)})
			for _, c := range []struct{ before, after string }{{"", ""}, {"%", ""}, {"%X", ""}, {"%X ", ""}, {"%X #", ""}, {"%X", "#"}, {"%YAML ", ".2"}, {"%YAML 1.", ""}, {"%TAG !", "! x"}, {"%TAG ", " x"}, {"%TAG ! ", ""}, {"%TAG ! x", ""}, {"%TAG ! %", ""}, {"%TAG ! %", "4"}} {
				check(t, c.before+pair+c.after)
			}
		}
	}
}

// 10.1, 10.4: every byte, and runes whose last byte could stand there, ahead of, within and behind each of the samples, and in the place of each of their bytes; and each sample cut, and without one of its bytes.
func TestEveryByte(t *testing.T) {
	var others []string
	for i := range 0x100 {
		others = append(others, string([]byte{byte(i)}), string(rune(0x100+i)))
	}
	samples := slices.Clone(refused)
	for _, c := range read {
		samples = append(samples, c.row)
	}
	for _, s := range samples {
		for at := range len(s) + 1 {
			behind := s[min(at+1, len(s)):]
			check(t, s[:at])
			check(t, s[at:])
			check(t, s[:at]+behind)
			for _, o := range others {
				check(t, s[:at]+o+s[at:])
				check(t, s[:at]+o+behind)
			}
		}
	}
}

// 10.3 (W1): for every row there is a directive, or ErrForm with nothing beside it; and a directive is read from itself again, with no comment.
func TestEitherOr(t *testing.T) {
	every([]string{"%", "%YAML", "%TAG", " ", "\t", "#", "!", "1.2", "x"}, 5, func(row string) {
		d, text, has, e := dire.Read(row)
		if (e == api.OK) == (d == "") || e != api.OK && e != api.ErrForm || !has && text != "" {
			t.Fatalf("Read(%q) = %q, %q, %v, %d", row, d, text, has, e)
		}
		if e != api.OK {
			return
		}
		if again, text, has, e := dire.Read(d); again != d || text != "" || has || e != api.OK {
			t.Fatalf("Read(%q) = %q, %q, %v, %d, and it is what Read(%q) answers", d, again, text, has, e, row)
		}
	})
}

// 10.3 (W3): a comment that is written behind a directive is read from there again, and so it is beside every directive.
func TestKeepsComments(t *testing.T) {
	for _, c := range read {
		if !strings.Contains(c.row, c.want) || c.has {
			continue
		}
		every([]string{" ", "\t", "#", "c", "%", "é", "\xff"}, 4, func(text string) {
			text = strings.TrimRight(text, " \t")
			for _, gap := range []string{" ", "\t", " \t "} {
				for _, behind := range []string{"", " ", "\t \t"} {
					row := c.want + gap + "#" + text + behind
					if d, got, has, e := dire.Read(row); d != c.want || got != text || !has || e != api.OK {
						t.Fatalf("Read(%q) = %q, %q, %v, %d, want %q, %q", row, d, got, has, e, c.want, text)
					}
				}
			}
		})
	}
}

// 10.1: a %TAG directive is read in the form in which chapter 9 looks for prefixes.
func TestTells(t *testing.T) {
	for _, c := range read {
		found := tag.FindStringSubmatch(c.want)
		if found == nil {
			continue
		}
		d, _, _, _ := dire.Read(c.row)
		if got, e := hand.Full([]string{d}, found[1]+"a"); got != found[2]+"a" || e != api.OK {
			t.Errorf("Full of %q with %q = %q, %d", found[1]+"a", d, got, e)
		}
	}
}

// 10.1, 10.2, 10.4: long rows, and many directives.
func TestLong(t *testing.T) {
	const n = 1 << 17
	a, gap := strings.Repeat("a", n), strings.Repeat(" \t", n)
	for _, row := range []string{"%" + a, "%X" + gap, "%X" + gap + a, "%X" + gap + "#" + gap + a + gap, gap, a, "%" + gap, "%" + gap + "#" + a, "%X" + strings.Repeat(" a", n), "%X" + strings.Repeat("#", n), "%X" + strings.Repeat(" #", n), strings.Repeat("%", n), "%X " + strings.Repeat("é\xff", n),
		"%YAML 1." + strings.Repeat("0", n), "%YAML 1." + strings.Repeat("0", n) + "a", "%YAML" + gap + "1.2" + gap, "%YAML 1.2" + gap + "3", "%TAG !" + a + "! x", "%TAG !" + a + " x", "%TAG !" + a + "_! x", "%TAG ! " + a, "%TAG ! " + a + "%", "%TAG ! " + strings.Repeat("%e9", n), "%TAG" + strings.Repeat(" !", n)} {
		got, text, has, e := dire.Read(row)
		if want, wantText, wantHas, f := wantRead(row); got != want || text != wantText || has != wantHas || e != f {
			t.Errorf("Read(%.12q..) has %d bytes, %d bytes, %v, %d, want %d, %d, %v, %d", row, len(got), len(text), has, e, len(want), len(wantText), wantHas, f)
		}
	}
	many := slices.Repeat([]string{"%X " + a, "%TAG !a! x", "%TAG"}, 1<<16)
	for _, c := range []struct {
		d    string
		want bool
	}{{"%YAML 1.2", false}, {"%TAG !e! x", false}, {"%TAG !a! " + a, true}, {"%X " + a, false}} {
		if got := dire.Twice(many, c.d); got != c.want {
			t.Errorf("Twice(.., %.12q) = %v, want %v", c.d, got, c.want)
		}
	}
	if last := append(many, "%TAG !e! x", "%YAML 1.2"); !dire.Twice(last, "%TAG !e! y") || !dire.Twice(last, "%YAML 1.1") {
		t.Error("Twice has not seen the last ones")
	}
}

// 10.1: what Read answers has memory of its own, which it shares with no argument, nor the one with the other.
func TestOwnMemory(t *testing.T) {
	for _, c := range read {
		row := strings.Clone(c.row)
		got, text, _, _ := dire.Read(row)
		if shares(got, row) || shares(text, row) || shares(got, text) || shares(text, got) {
			t.Errorf("Read(%q) = %q, %q: the memory is %v, %v that of the row, and %v, %v of the other", row, got, text, shares(got, row), shares(text, row), shares(got, text), shares(text, got))
		}
	}
}

// shares reports whether s begins within the memory of t.
func shares(s, t string) bool {
	if s == "" || t == "" {
		return false
	}
	at, from := uintptr(unsafe.Pointer(unsafe.StringData(s))), uintptr(unsafe.Pointer(unsafe.StringData(t)))
	return from <= at && at < from+uintptr(len(t))
}
