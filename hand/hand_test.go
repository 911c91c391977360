package hand_test

import (
	"math"
	"net/url"
	"regexp"
	"slices"
	"strings"
	"testing"
	"unicode/utf8"
	"unsafe"

	"bosket/api"
	"bosket/hand"
)

const long = "tag:yaml.org,2002:"

// The chapter's words for a tag, and for what its parts are.
const (
	code    = `%[0-9a-fA-F]{2}`
	uri     = `[a-zA-Z0-9\-#;/?:@&=+$_.!~*'(),\[\]]`
	suffix  = `[a-zA-Z0-9\-#;/?:@&=+$_.~*'()]`
	handle  = `(?:!|!!|![a-zA-Z0-9\-]+!)`
	anyTag  = `!<(?:` + uri + `|` + code + `)+>|!|` + handle + `(?:` + suffix + `|` + code + `)+`
	anyPart = `(?:(` + handle + `)((?:` + suffix + `|` + code + `)+))`
)

var (
	begins = longest(`\A(?:` + anyTag + `)`)
	whole  = regexp.MustCompile(`\A(?:` + anyTag + `)\z`)
	halves = regexp.MustCompile(`\A` + anyPart + `\z`)
)

// longest makes an expression that finds the longest match instead of the first.
func longest(words string) *regexp.Regexp {
	r := regexp.MustCompile(words)
	r.Longest()
	return r
}

// wantSize works Size out from the chapter's words.
func wantSize(s string, at int) int {
	if at < 0 || at >= len(s) {
		return 0
	}
	return len(begins.FindString(s[at:]))
}

// wantFull works Full out from the chapter's words.
func wantFull(dirs []string, tag string) (string, api.Errno) {
	switch {
	case !whole.MatchString(tag):
		return "", api.ErrTag
	case tag == "!":
		return "!", api.OK
	case strings.HasPrefix(tag, "!<"):
		return strings.TrimSuffix(strings.TrimPrefix(tag, "!<"), ">"), api.OK
	}
	found := halves.FindStringSubmatch(tag)
	before, known := map[string]string{"!": "!", "!!": long}[found[1]]
	for _, d := range slices.Backward(dirs) {
		if words := strings.SplitN(d, " ", 3); len(words) == 3 && words[0] == "%TAG" && words[1] == found[1] {
			before, known = words[2], true
		}
	}
	behind, err := url.PathUnescape(found[2])
	if err != nil || !known || !utf8.ValidString(behind) {
		return "", api.ErrTag
	}
	return before + behind, api.OK
}

// checkSize holds Size against the chapter's words at every place in s, and right outside of it.
func checkSize(t *testing.T, s string) {
	t.Helper()
	for at := -1; at <= len(s)+1; at++ {
		if got, want := hand.Size(s, at), wantSize(s, at); got != want {
			t.Fatalf("Size(%q, %d) = %d, want %d", s, at, got, want)
		}
	}
}

// checkFull holds Full against the chapter's words, and that it changes none of dirs.
func checkFull(t *testing.T, dirs []string, tag string) {
	t.Helper()
	before := slices.Clone(dirs)
	got, e := hand.Full(dirs, tag)
	if want, f := wantFull(dirs, tag); got != want || e != f {
		t.Fatalf("Full(%q, %q) = %q, %d, want %q, %d", dirs, tag, got, e, want, f)
	}
	if !slices.Equal(dirs, before) {
		t.Fatalf("Full(%q, %q) has made them %q", before, tag, dirs)
	}
}

// check holds both calls against the chapter's words for s.
func check(t *testing.T, s string) {
	t.Helper()
	checkSize(t, s)
	checkFull(t, nil, s)
	checkFull(t, some, s)
}

// some are directives, with prefixes for handles of each kind.
var some = []string{"%YAML 1.2", "%TAG !e! x:", "%TAG !a! %41!", "%TAG ! y", "%TAG !e! z"}

// every calls use with all texts of at most most of these parts.
func every(parts []string, most int, use func(string)) {
	var longer func(string, int)
	longer = func(s string, n int) {
		use(s)
		if n == most {
			return
		}
		for _, p := range parts {
			longer(s+p, n+1)
		}
	}
	longer("", 0)
}

// tags are tags of each form with what follows them, and how many bytes of it are the tag.
var tags = []struct {
	s    string
	size int
}{
	{"!", 1}, {"! ", 1}, {"! a", 1}, {"!\n", 1}, {"!\ta", 1}, {"!,", 1}, {"![", 1}, {"!]", 1}, {"!{", 1}, {"!}", 1}, {"!|", 1}, {"!>", 1}, {"!\"", 1}, {"!é", 1}, {"!\xff", 1}, {"!\x00", 1}, {"!\\", 1}, {"!^", 1}, {"!`", 1}, // a ! alone
	{"!a", 2}, {"!-", 2}, {"!0", 2}, {"!Z", 2}, {"!str", 4}, {"!a b", 2}, {"!a,b", 2}, {"!a]", 2}, {"!a[", 2}, {"!a{", 2}, {"!a}", 2}, {"!a\nb", 2}, {"!aé", 2}, {"!a\xff", 2}, {"!a\"", 2}, // a suffix of letters
	{"!#", 2}, {"!#;/?:@&=+$_.~*'()-", 19}, {"!:", 2}, {"!'a'", 4}, {"!*a", 3}, {"!&a", 3}, {"!a#b", 4}, {"!a:b", 4}, {"!a: b", 3}, {"!a:", 3}, {"!_x", 3}, {"!a_b", 4}, // of other bytes
	{"!%41", 4}, {"!%41b", 5}, {"!a%21", 5}, {"!a%2", 2}, {"!a%", 2}, {"!a%zz", 2}, {"!a%2z", 2}, {"!a%z2", 2}, {"!%", 1}, {"!%4", 1}, {"!%4g", 1}, {"!%g4", 1}, {"!%%41", 1}, {"!%4%41", 1}, {"!%41%42", 7}, {"!%41%4", 4}, {"!%aF%Af", 7}, {"!%00", 4}, {"!%ff", 4}, {"!%4é", 1}, {"!%é4", 1}, {"!%４１", 1}, {"!%+4", 1}, {"!%-4", 1}, {"!% 4", 1}, {"!%0x4", 1}, {"!%411", 5}, // of codes
	{"!!", 1}, {"!! ", 1}, {"!!!", 1}, {"!!,", 1}, {"!!str", 5}, {"!!str x", 5}, {"!!str!", 5}, {"!!a!b", 3}, {"!!%41", 5}, {"!!%4", 1}, {"!!:", 3}, {"!!<a>", 1}, {"!!é", 1}, {"!!a%2", 3}, // the handle !!
	{"!e!", 2}, {"!e! ", 2}, {"!e!,", 2}, {"!e!!", 2}, {"!e!!a", 2}, {"!e!a", 4}, {"!e!a!", 4}, {"!e!a!b", 4}, {"!a-b!c:d/e", 10}, {"!-!a", 4}, {"!0!a", 4}, {"!e!%41", 6}, {"!e!%4", 2}, {"!e!%zz", 2}, {"!e!a%", 4}, {"!e!<a>", 2}, {"!e!é", 2}, {"!e!\n", 2}, {"!e!#", 4}, // handles with words
	{"!_!a", 2}, {"!_x!y", 3}, {"!e_!a", 3}, {"!e.!a", 3}, {"!%41!a", 4}, {"!e%41!a", 5}, {"!e:!a", 3}, {"!é!a", 1}, {"!eé!a", 2}, {"!e !a", 2}, {"!e,!a", 2}, // what can be no handle
	{"!<a>", 4}, {"!<a>b", 4}, {"!<a>>", 4}, {"!<a,[b]!>", 9}, {"!<!>", 4}, {"!<!a>", 5}, {"!<%41>", 6}, {"!<a%41b>", 8}, {"!<tag:yaml.org,2002:str> x", 24}, {"!<#;/?:@&=+$_.!~*'()-,[]>", 25}, {"!<%ff>", 6}, // brackets
	{"!<", 1}, {"!<>", 1}, {"!<a", 1}, {"!<a ", 1}, {"!<a b>", 1}, {"!< >", 1}, {"!<a\n>", 1}, {"!<<a>>", 1}, {"!<a<b>", 1}, {"!<a{>", 1}, {"!<{}>", 1}, {"!<é>", 1}, {"!<aé>", 1}, {"!<a\xff>", 1}, {"!<a%>", 1}, {"!<a%4>", 1}, {"!<%4>", 1}, {"!<%zz>", 1}, {"!<a%%41>", 1}, {"!<a%4", 1}, {"!<a\">", 1}, {"!<a|>", 1}, {"!<a^>", 1}, // brackets that are none
	{"", 0}, {"a", 0}, {"a!", 0}, {" !a", 0}, {"<a>", 0}, {"%41", 0}, {"#!", 0}, {"\xa1", 0}, {"ġ", 0}, {"é!", 0}, {"\n!", 0}, {"&!", 0}, {"！a", 0}, // no tag at all
	{"!ġ", 1}, {"!a\u0161", 2}, {"!\u0161!a", 1}, {"!a\u0121b", 2}, {"!a\u2021", 2}, {"!<\u0161>", 1}, {"!<a\u013e", 1}, {"!e\u0121a", 2}, {"!%\u01341", 1}, {"!%4\u0131", 1}, {"!\u0125" + "41", 1}, {"!\u0441", 1}, // runes whose last byte could stand there
}

// 9.1: how many bytes the longest tag has, written out.
func TestSize(t *testing.T) {
	for _, c := range tags {
		if got := hand.Size(c.s, 0); got != c.size {
			t.Errorf("Size(%q, 0) = %d, want %d", c.s, got, c.size)
		}
		check(t, c.s) // that these and the chapter's words agree
	}
}

// 9.1: what stands ahead of at is not looked at, and nothing is there where s has no byte.
func TestSizePlaces(t *testing.T) {
	for _, c := range tags {
		for _, before := range []string{"x", "!", "!<", "!e!", " ", "\n", "%", "%4", "é", "\xff"} {
			if got := hand.Size(before+c.s, len(before)); got != c.size {
				t.Errorf("Size(%q, %d) = %d, want %d", before+c.s, len(before), got, c.size)
			}
			checkSize(t, before+c.s)
		}
		for _, at := range []int{math.MinInt, math.MinInt + 1, math.MinInt32, -len(c.s) - 1, -len(c.s), -2, -1, len(c.s), len(c.s) + 1, 2*len(c.s) + 2, math.MaxInt32, math.MaxInt - 1, math.MaxInt} {
			if got := hand.Size(c.s, at); got != 0 {
				t.Errorf("Size(%q, %d) = %d, want 0", c.s, at, got)
			}
		}
	}
}

// 9.2: the full forms of tags, written out.
func TestFull(t *testing.T) {
	for _, c := range []struct {
		dirs      []string
		tag, want string
	}{
		{nil, "!!str", "tag:yaml.org,2002:str"}, // the chapter's examples
		{[]string{"%TAG !e! x:"}, "!e!a%21", "x:a!"},
		{nil, "!", "!"}, {[]string{"%TAG ! a"}, "!", "!"}, {[]string{"%TAG !! a"}, "!", "!"}, // a ! alone has no handle
		{nil, "!<a>", "a"}, {nil, "!<!>", "!"}, {nil, "!<!!str>", "!!str"}, {nil, "!<tag:yaml.org,2002:str>", "tag:yaml.org,2002:str"}, // nor has what is in brackets
		{nil, "!<y%21>", "y%21"}, {nil, "!<%ff>", "%ff"}, {nil, "!<%c3%A9>", "%c3%A9"}, {nil, "!<%41>", "%41"}, // whose codes are kept
		{[]string{"%TAG ! b", "%TAG !! c", "%TAG !e! d"}, "!<!e!a>", "!e!a"}, {[]string{"%TAG ! b"}, "!<a>", "a"},
		{nil, "!x", "!x"}, {nil, "!a:b", "!a:b"}, {nil, "!#", "!#"}, {nil, "!!a", long + "a"}, {nil, "!!#", long + "#"}, // the prefixes without directives
		{[]string{"%YAML 1.2"}, "!x", "!x"}, {[]string{"%YAML 1.2", "%TAG !e! a"}, "!x", "!x"}, {[]string{"%TAG !e! a"}, "!!x", long + "x"}, // and with those of others
		{[]string{"%TAG ! a"}, "!x", "ax"}, {[]string{"%TAG !! a"}, "!!x", "ax"}, {[]string{"%TAG !! a"}, "!x", "!x"}, {[]string{"%TAG ! a"}, "!!x", long + "x"}, // with a prefix of their own
		{[]string{"%TAG ! a", "%TAG ! b"}, "!c", "ac"}, {[]string{"%TAG !e! a", "%TAG !! b", "%TAG !e! c"}, "!e!x", "ax"}, // the first is taken
		{[]string{"%TAG !ee! a", "%TAG !E! b", "%TAG !e! c"}, "!e!x", "cx"}, {[]string{"%TAG !e! a"}, "!e!e", "ae"}, {[]string{"%TAG !-! a"}, "!-!-", "a-"}, // whole handles
		{[]string{"%TAG !e! !"}, "!e!x", "!x"}, {[]string{"%TAG ! !!"}, "!x", "!!x"}, {[]string{"%TAG !! ! "}, "!!x", "! x"}, // a prefix has no prefix
		{[]string{"%TAG !e! %41"}, "!e!%42", "%41B"}, {[]string{"%TAG !e! %"}, "!e!41", "%41"}, {[]string{"%TAG !e! %ff"}, "!e!x", "%ffx"}, // nor are its codes read
		{nil, "!%41", "!A"}, {nil, "!a%21", "!a!"}, {nil, "!%2c", "!,"}, {nil, "!%2C", "!,"}, {nil, "!%5b%5D%7b%7D", "![]{}"}, {nil, "!%25", "!%"}, {nil, "!%2541", "!%41"}, {nil, "!%20", "! "}, {nil, "!%0a", "!\n"}, {nil, "!%00", "!\x00"}, {nil, "!%7f", "!\x7f"}, {nil, "!a%62c", "!abc"}, {nil, "!+", "!+"}, // codes
		{nil, "!a%c3%A9", "!aé"}, {nil, "!%C3%a9%e2%82%ac%f0%9F%98%80", "!é€😀"}, {nil, "!%ef%bf%bd", "!\ufffd"}, {nil, "!%ef%bb%bf", "!\ufeff"}, {nil, "!%ed%9f%bf", "!\ud7ff"}, {nil, "!%f4%8f%bf%bf", "!\U0010ffff"}, // of several bytes
	} {
		if got, e := hand.Full(c.dirs, c.tag); got != c.want || e != api.OK {
			t.Errorf("Full(%q, %q) = %q, %d, want %q", c.dirs, c.tag, got, e, c.want)
		}
		checkFull(t, c.dirs, c.tag)
	}
}

// 9.2: what is no tag, has no prefix or is no text.
func TestFullErrors(t *testing.T) {
	for _, c := range []struct {
		dirs []string
		tag  string
	}{
		{nil, ""}, {nil, "a"}, {nil, " !"}, {nil, "! "}, {nil, "!a "}, {nil, "!a b"}, {nil, "!a\n"}, {nil, "\n!a"}, {nil, "!é"}, {nil, "!\xff"}, {nil, "é"}, {nil, "\xff"}, // no tag
		{nil, "!a,"}, {nil, "!a]"}, {nil, "!["}, {nil, "!{}"}, {nil, "!a{"}, {nil, "!a!b!c"}, {nil, "!!a!b"}, {nil, "!!"}, {nil, "!!!"}, {nil, "!!!a"}, {nil, "!e!"}, {nil, "!_!a"}, {nil, "!a%"}, {nil, "!a%2"}, {nil, "!a%2g"}, {nil, "!%"}, {nil, "!%%41"},
		{nil, "!<"}, {nil, "!<>"}, {nil, "!<a"}, {nil, "!<a>b"}, {nil, "!<a>>"}, {nil, "!<a b>"}, {nil, "!<{>"}, {nil, "!<é>"}, {nil, "!<%>"}, {nil, "!<%4>"}, {nil, "!<a%4g>"}, {nil, "<a>"}, {nil, "!!<a>"},
		{[]string{"%TAG !e! a"}, "!e!"}, {[]string{"%TAG !! a"}, "!!"}, {[]string{"%TAG !_! a"}, "!_!x"}, {[]string{"%TAG  a"}, "x"}, {[]string{"%TAG !< a"}, "!<x"}, // nor with a directive
		{nil, "!e!a"}, {nil, "!-!a"}, {nil, "!str!a"}, {[]string{"%TAG !f! a"}, "!e!a"}, {[]string{"%TAG ! a", "%TAG !! b"}, "!e!a"}, {[]string{"%TAG !ee! a", "%TAG !E! b"}, "!e!a"}, // no prefix
		{[]string{"%TAG !e!"}, "!e!a"}, {[]string{"%TAG  !e! a"}, "!e!a"}, {[]string{" %TAG !e! a"}, "!e!a"}, {[]string{"TAG !e! a"}, "!e!a"}, {[]string{"%tag !e! a"}, "!e!a"}, {[]string{"%TAG\t!e! a"}, "!e!a"}, {[]string{"%TAG !e!\ta"}, "!e!a"}, {[]string{"%TAG !e!a"}, "!e!a"}, {[]string{"%TAGS !e! a"}, "!e!a"}, {[]string{"%YAML !e! a"}, "!e!a"}, {[]string{"%TAG e a"}, "!e!a"}, {[]string{"!e! a"}, "!e!a"}, {[]string{""}, "!e!a"}, {[]string{"%TAG"}, "!e!a"}, {[]string{"%TAG "}, "!e!a"}, {[]string{"%TAG !f! %TAG !e! a"}, "!e!a"},
		{nil, "!a%ff"}, {nil, "!%80"}, {nil, "!%c3"}, {nil, "!%c3a"}, {nil, "!%c3%28"}, {nil, "!%c0%80"}, {nil, "!a%ed%a0%80"}, {nil, "!%e2%82"}, {nil, "!%e2%82a"}, {nil, "!%f4%90%80%80"}, {nil, "!%f5%80%80%80"}, {nil, "!!%ff"}, {nil, "!a%ffa"}, {nil, "!%ffa"}, // no text
		{[]string{"%TAG !e! a"}, "!e!%ff"}, {[]string{"%TAG ! \xc3"}, "!%a9"}, {[]string{"%TAG !e! \xe2\x82"}, "!e!%ac"}, {nil, "!e!%ff"}, // the suffix is to be one alone
	} {
		if got, e := hand.Full(c.dirs, c.tag); got != "" || e != api.ErrTag {
			t.Errorf("Full(%q, %q) = %q, %d, want ErrTag", c.dirs, c.tag, got, e)
		}
		checkFull(t, c.dirs, c.tag)
	}
}

// 9.2: directives of any form, with one that fits ahead of, between and behind them.
func TestDirs(t *testing.T) {
	odd := []string{"", " ", "%", "%TAG", "%TAG ", "%TAG  ", "%TAG   ", "%TAG !", "%TAG ! ", "%TAG !  ", "%TAG ! a b", "%TAG !! ", "%TAG !!", "%TAG !e!", "%TAG !e! ", "%TAG !e!  x", "%TAG !e! \x00", "%TAG !e! é\xff", "%TAG !e!\n", "%TAG !e! x\n", "%TAG\x00!e! x", "%YAML 1.2", "%TAG !a! !e! b", "%TAG !e! !e! c", "%TAG !A! x", "!e!", "\xff", strings.Repeat("%TAG !e! ", 1000)}
	texts := []string{"!", "!a", "!!a", "!e!a", "!a!a", "!A!a", "!E!a", "!e!%e2%82%ac", "!e!%e2%82", "!<a>", "!e!", "", " ", "! ", "!a !e! b"}
	for _, tag := range texts {
		for _, d := range odd {
			checkFull(t, []string{d}, tag)
			for _, c := range odd {
				checkFull(t, []string{d, c}, tag)
				checkFull(t, []string{c, "%TAG !e! first", d, "%TAG !e! second", "%TAG ! third"}, tag)
			}
		}
		checkFull(t, []string{}, tag)
	}
	many := slices.Repeat([]string{"%TAG !f! x"}, 1<<16)
	checkFull(t, append(many, "%TAG !e! last"), "!e!a")
	checkFull(t, many, "!e!a")
}

// 9.1, 9.2, 9.4: every text of up to seven parts of those from which tags are made, and of fewer of more.
func TestEveryText(t *testing.T) {
	every([]string{"!", "a", "<", ">", "%"}, 7, func(s string) { check(t, s) })
	every([]string{"!", "<", ">", "%41", "%", "4", "F", "g"}, 5, func(s string) { check(t, s) })
	every([]string{"!", "!<", "e!", "a", "%e2", "%82", "%AC", "%"}, 5, func(s string) { check(t, s) })
	every([]string{"!", "<", ">", "%", "%41", "%e9", "a", "-", "_", ",", "[", "}", ":", "'", " ", "\n", "é", "\xff"}, 4, func(s string) { check(t, s) })
}

// 9.1, 9.2, 9.4: every text of one and of two bytes, alone and where the parts of a tag stand.
func TestEveryPairOfBytes(t *testing.T) {
	for a := range 0x100 {
		check(t, string([]byte{byte(a)}))
		for b := range 0x100 {
			pair := string([]byte{byte(a), byte(b)})
			for _, c := range []struct{ before, after string }{{"", ""}, {"!", ""}, {"!", "!a"}, {"!e!", ""}, {"!<", ">"}, {"!%", "a"}, {"!<%", ">"}, {"!%", ""}} {
				s := c.before + pair + c.after
				if got, want := hand.Size(s, 0), wantSize(s, 0); got != want {
					t.Fatalf("Size(%q, 0) = %d, want %d", s, got, want)
				}
				checkFull(t, some, s)
			}
		}
	}
}

// 9.2: every two and three codes: which of them are a text, and which one.
func TestEveryCode(t *testing.T) {
	const small, great = "0123456789abcdef", "0123456789ABCDEF"
	spell := func(bytes ...int) string {
		s := "!"
		for i, b := range bytes {
			digits := [2]string{small, great}
			s += "%" + digits[i%2][b>>4:b>>4+1] + digits[(i+1)%2][b&15:b&15+1]
		}
		return s
	}
	edges := []int{0x00, 0x41, 0x7f, 0x80, 0x8f, 0x90, 0x9f, 0xa0, 0xbf, 0xc0, 0xc2, 0xdf, 0xe0, 0xe1, 0xec, 0xed, 0xee, 0xef, 0xf0, 0xf1, 0xf4, 0xf5, 0xff}
	for a := range 0x100 {
		checkFull(t, nil, spell(a))
		for b := range 0x100 {
			checkFull(t, nil, spell(a, b))
			for _, c := range edges {
				checkFull(t, nil, spell(a, b, c))
			}
		}
	}
	for _, a := range edges {
		for _, b := range edges {
			for _, c := range edges {
				for _, d := range edges {
					checkFull(t, nil, spell(a, b, c, d))
				}
			}
		}
	}
}

// 9.1, 9.2, 9.4: every byte, and runes whose last byte could stand in a tag, ahead of, within and behind each of the samples, and in the place of each of its bytes; and each sample without one of them.
func TestEveryByte(t *testing.T) {
	var others []string
	for i := range 0x100 {
		others = append(others, string([]byte{byte(i)}), string(rune(0x100+i)))
	}
	for _, c := range tags {
		for at := range len(c.s) + 1 {
			check(t, c.s[:at])
			check(t, c.s[at:])
			check(t, c.s[:at]+c.s[min(at+1, len(c.s)):])
			for _, o := range others {
				for _, s := range []string{c.s[:at] + o + c.s[at:], c.s[:at] + o + c.s[min(at+1, len(c.s)):]} {
					if got, want := hand.Size(s, 0), wantSize(s, 0); got != want {
						t.Fatalf("Size(%q, 0) = %d, want %d", s, got, want)
					}
					checkFull(t, some, s)
				}
			}
		}
	}
}

// 9.1: the longest tag is taken: no longer beginning of a text is a tag as a whole, and that one is.
func TestLongest(t *testing.T) {
	every([]string{"!", "a", "<", ">", "%", "%41", ","}, 6, func(s string) {
		size := hand.Size(s, 0)
		for end := range len(s) + 1 {
			isTag := end > 0 && hand.Size(s[:end], 0) == end
			if end == size && end > 0 && !isTag || end > size && isTag {
				t.Fatalf("Size(%q, 0) = %d, and %q is a tag: %v", s, size, s[:end], isTag)
			}
		}
	})
}

// 9.3 (W2): a tag that is written as it was read has the same full form; so has one that is written by that form in brackets, and one whose suffix is written by its codes.
func TestKeepsFull(t *testing.T) {
	for _, c := range tags {
		tag := c.s[:c.size]
		full, e := hand.Full(some, tag)
		if e != api.OK {
			continue
		}
		if again, e := hand.Full(slices.Clone(some), strings.Clone(tag)); again != full || e != api.OK {
			t.Errorf("Full of %q = %q, then %q, %d", tag, full, again, e)
		}
		if form := "!<" + full + ">"; hand.Size(form, 0) == len(form) {
			if again, e := hand.Full(nil, form); again != full || e != api.OK {
				t.Errorf("Full of %q = %q, %d, and of %q = %q", form, again, e, tag, full)
			}
		}
		found := halves.FindStringSubmatch(tag)
		if found == nil {
			continue
		}
		behind, _ := url.PathUnescape(found[2])
		codes := found[1]
		for i := range len(behind) {
			codes += "%" + "0123456789abcdef"[behind[i]>>4:behind[i]>>4+1] + "0123456789ABCDEF"[behind[i]&15:behind[i]&15+1]
		}
		if again, e := hand.Full(some, codes); again != full || e != api.OK {
			t.Errorf("Full of %q = %q, %d, and of %q = %q", codes, again, e, tag, full)
		}
	}
}

// 9.2, 9.4: long tags of each form are read as a whole, and long texts that are none are told as such.
func TestLong(t *testing.T) {
	const n = 1 << 20
	a, codes := strings.Repeat("a", n), strings.Repeat("%c3%A9", n)
	for _, c := range []struct {
		s         string
		size      int
		dir, full string
		e         api.Errno
	}{
		{s: "!" + a, size: n + 1, full: "!" + a},
		{s: "!!" + a, size: n + 2, full: long + a},
		{s: "!" + a + "!" + a, size: 2*n + 2, dir: "%TAG !" + a + "! p", full: "p" + a},
		{s: "!" + a + "!" + a, size: 2*n + 2, dir: "%TAG !" + a[1:] + "! p", e: api.ErrTag},
		{s: "!" + a + "!", size: n + 1, e: api.ErrTag},
		{s: "!<" + a + ">", size: n + 3, full: a},
		{s: "!<" + a, size: 1, e: api.ErrTag},
		{s: "!<" + codes + ">", size: 6*n + 3, full: codes},
		{s: "!" + codes, size: 6*n + 1, full: "!" + strings.Repeat("é", n)},
		{s: "!" + codes + "%c3", size: 6*n + 4, e: api.ErrTag},
		{s: "!" + codes + "%c", size: 6*n + 1, e: api.ErrTag},
		{s: strings.Repeat("!", n), size: 1, e: api.ErrTag},
		{s: strings.Repeat("!<", n), size: 1, e: api.ErrTag},
		{s: strings.Repeat(" ", n), size: 0, e: api.ErrTag},
	} {
		if got := hand.Size(c.s, 0); got != c.size {
			t.Errorf("Size of %.8q.. = %d, want %d", c.s, got, c.size)
		}
		if got, e := hand.Full([]string{c.dir}, c.s); got != c.full || e != c.e {
			t.Errorf("Full of %.8q.. has %d bytes, %d, want %d, %d", c.s, len(got), e, len(c.full), c.e)
		}
	}
}

// 9.2: a full form has memory of its own, which it shares with no argument.
func TestOwnMemory(t *testing.T) {
	for _, c := range []struct{ dir, tag string }{{"", "!<abc>"}, {"", "!abc"}, {"", "!!abc"}, {"%TAG !e! abc", "!e!d"}, {"%TAG !e! ", "!e!abc"}, {"%TAG ! ", "!abc"}} {
		dir, tag := strings.Clone(c.dir), strings.Clone(c.tag)
		got, e := hand.Full([]string{dir}, tag)
		if e != api.OK || shares(got, dir) || shares(got, tag) {
			t.Errorf("Full(%q, %q) = %q, %d: the memory is %v, %v that of an argument", c.dir, c.tag, got, e, shares(got, dir), shares(got, tag))
		}
	}
}

// shares reports whether s begins within the memory of t.
func shares(s, t string) bool {
	if s == "" || t == "" {
		return false
	}
	at, from := uintptr(unsafe.Pointer(unsafe.StringData(s))), uintptr(unsafe.Pointer(unsafe.StringData(t)))
	return from <= at && at < from+uintptr(len(t))
}
