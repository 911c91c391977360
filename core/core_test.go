package core_test

import (
	"regexp"
	"slices"
	"strings"
	"testing"

	"bosket/core"
)

const prefix = "tag:yaml.org,2002:"

// words are all words, in the order in which the chapter asks for them.
var words = []string{"null", "bool", "int", "float", "str"}

// applies has the chapter's words for each word but str, for which all is left.
var applies = []*regexp.Regexp{
	regexp.MustCompile(`\A(|null|Null|NULL|~)\z`),
	regexp.MustCompile(`\A(true|True|TRUE|false|False|FALSE)\z`),
	regexp.MustCompile(`\A([-+]?[0-9]+|0o[0-7]+|0x[0-9a-fA-F]+)\z`),
	regexp.MustCompile(`\A([-+]?(\.[0-9]+|[0-9]+\.?[0-9]*)([eE][-+]?[0-9]+)?|[-+]?\.(inf|Inf|INF)|\.(nan|NaN|NAN))\z`),
}

// want works the tag of s out from the chapter's words.
func want(s string) string {
	for i, r := range applies {
		if r.MatchString(s) {
			return prefix + words[i]
		}
	}
	return prefix + "str"
}

// check holds Tag against the chapter's words for s.
func check(t *testing.T, s string) {
	t.Helper()
	if got, want := core.Tag(s), want(s); got != want {
		t.Fatalf("Tag(%q) = %q, want %q", s, got, want)
	}
}

// samples are plain scalars of each word, and ones that are nearly of another.
var samples = map[string][]string{
	"null":  {"", "null", "Null", "NULL", "~"},
	"bool":  {"true", "True", "TRUE", "false", "False", "FALSE"},
	"int":   {"0", "9", "00", "007", "08", "1234567890", "+0", "-0", "+1", "-12", "-09", "0o0", "0o7", "0o17", "0o01234567", "0x0", "0x1F", "0xabCD", "0x0123456789abcdefABCDEF", "0xe1", "0x1e", "99999999999999999999999999999999"},
	"float": {"1.", "0.", "00.", ".5", ".0", "0.0", "1.5", "12.345", "-.5", "+.5", "-1.", "+1.5", "1e9", "1E9", "1e+9", "1E-9", "0e0", "-1e9", "1.e5", "1.e+1", ".5e3", "-.5e3", "+1.5E-07", "12.34e056", "1e999", ".inf", ".Inf", ".INF", "+.inf", "+.Inf", "+.INF", "-.inf", "-.Inf", "-.INF", ".nan", ".NaN", ".NAN"},
	"str": {
		"nULL", "nuLL", "NUll", "nul", "nulls", "Nul", "null ", " null", "~~", "~ ", " ~", "~null", "none", "nil", // no null
		"tRUE", "TRue", "TrUE", "fALSE", "FAlse", "tru", "trues", "truefalse", "true ", " false", "yes", "Yes", "no", "NO", "on", "off", "y", "n", "t", "f", // no bool
		"+", "-", "++1", "--1", "+-1", "-+1", "1+", "1-", "1-2", "- 1", "1 ", " 1", "1 2", "1_000", "1,000", "1\n", "1\x00", "12a", "a12", "0b1", "0b01", "1n", "1:30", "12:30:45", "2001-12-14", // no int
		"0o", "0o8", "0o18", "0o81", "0O7", "+0o7", "-0o7", "00o7", "1o7", "o7", "0o7.", "0o7e1", "0o-7", "0o 7", "0oa", // with 0o
		"0x", "0xg", "0x1g", "0xg1", "0X1F", "+0x1", "-0x1F", "00x1", "1x1", "x1", "0x1.", "0x1.8", "0x1p4", "0x-1", "0x 1", "0xx1", "0x_1", // with 0x
		".", "+.", "-.", "..", "..1", "1..", "1..2", ".1.", "1.2.3", "1.5.", ". 5", "1 .5", "1,5", ".-5", "1.-5", "1.+5", "1_0.5", "1.5f", // no float
		"e", "e1", "E1", "1e", "1E", "1e+", "1e-", "+e1", "-e1", ".e3", ".e", "+.e3", "1.e", "1.5e", ".5e", "1.5E-", "1ee1", "1eE1", "1e1e1", "1e++1", "1e+-1", "1e1.", "1e1.5", "1e.5", "1e 1", "1 e1", "1e1 ", "1e1-", "1f1", // with e
		"inf", "Inf", "INF", "+inf", "-Inf", ".iNF", ".InF", ".INf", ".inF", ".in", ".infi", ".infinity", ".inf.", "..inf", "1.inf", "0.inf", "++.inf", "--.inf", "+-.inf", ".+inf", ".inf ", ".infe1", "+.INf", "-.iNF", // no infinity
		"nan", "NaN", "NAN", ".Nan", ".nAn", ".nAN", ".naN", ".NAn", ".na", ".nann", ".nan.", "..nan", "0.nan", "+.nan", "-.nan", "+.NaN", "-.NAN", ".nan ", ".nane1", // no number at all
		"a", "é", "a b", "null null", "'1'", "\"1\"", "[1]", "<<", "=", "!", "?", ":", "#", "!!int", // nothing of all that
		"\u0661", "\uff11", "\u00b2", "\u0661.\u0661", "+\u0661", "1\u0661", "\u22121", "\uff0b1", "1\uff0e5", "\u2212.inf", "\uff4eull", "\uff5e", // digits, signs, points and letters of other kinds
		"\ufeff1", "1\ufeff", "\u00a01", "1\u00a0", "\u200b", "\t", " ", "\n", "\r", "\x00", "\xff", "1\xff", "\xff1", "\xc3", "\x00null", "null\x00",
	},
}

// 8.1: plain scalars of each word, and ones that are nearly of another, written out.
func TestTag(t *testing.T) {
	for _, word := range words {
		for _, s := range samples[word] {
			if got, want := core.Tag(s), "tag:yaml.org,2002:"+word; got != want {
				t.Errorf("Tag(%q) = %q, want %q", s, got, want)
			}
			check(t, s) // that the samples and the chapter's words agree
		}
	}
}

// 8.1: what Long returns, for the words of the chapter and for any others.
func TestLong(t *testing.T) {
	for _, word := range []string{"null", "bool", "int", "float", "str", "seq", "map", "", "x y", "a:b,c", "!", "%21", " ", "\n", "\x00", "é", "\xff", "tag:yaml.org,2002:", strings.Repeat("a", 1<<16)} {
		if got, want := core.Long(word), "tag:yaml.org,2002:"+word; got != want {
			t.Errorf("Long(%q) = %q, want %q", word, got, want)
		}
	}
	for _, c := range []struct{ s, want string }{
		{"0x1F", core.Long("int")}, // the chapter's examples
		{"1.", core.Long("float")},
		{"+0x1", core.Long("str")},
	} {
		if got := core.Tag(c.s); got != c.want {
			t.Errorf("Tag(%q) = %q, want %q", c.s, got, c.want)
		}
	}
}

// every calls use with all texts of at most most of these parts.
func every(parts []string, most int, use func(string)) {
	var longer func(string, int)
	longer = func(s string, n int) {
		use(s)
		if n == most {
			return
		}
		for _, p := range parts {
			longer(s+p, n+1)
		}
	}
	longer("", 0)
}

// 8.1: every text of up to six parts of those from which numbers are made, and of up to four of many more.
func TestEveryText(t *testing.T) {
	every([]string{"+", "-", ".", "0", "7", "e", "x"}, 6, func(s string) { check(t, s) })
	every([]string{"0", "o", "x", "7", "8", "a", "F", "g"}, 5, func(s string) { check(t, s) })
	every([]string{"1", ".", "e", "E", "+"}, 7, func(s string) { check(t, s) })
	every([]string{"+", "-", ".", ".inf", ".Inf", ".INF", ".nan", ".NaN", ".NAN", "inf", "nan", "null", "Null", "~", "true", "FALSE", "0", "0o", "0x", "9", "e", "E", "f", " ", "\n", "_", "é", "\xff"}, 4, func(s string) { check(t, s) })
}

// 8.1, 8.3: every text of one and of two bytes.
func TestEveryPairOfBytes(t *testing.T) {
	for a := range 0x100 {
		check(t, string([]byte{byte(a)}))
		for b := range 0x100 {
			check(t, string([]byte{byte(a), byte(b)}))
		}
	}
}

// 8.1, 8.3: every byte ahead of, within and behind each of the samples, and in the place of each of its bytes; and each sample without one of them.
func TestEveryByte(t *testing.T) {
	for _, word := range words {
		for _, s := range samples[word] {
			for at := range len(s) + 1 {
				check(t, s[:at])
				check(t, s[at:])
				check(t, s[:at]+s[min(at+1, len(s)):])
				for i := range 0x100 {
					c := string([]byte{byte(i)})
					check(t, s[:at]+c+s[at:])
					check(t, s[:at]+c+s[min(at+1, len(s)):])
				}
			}
		}
	}
}

// 8.1: every way to write the letters of the words small or great, with a sign and without.
func TestEveryCase(t *testing.T) {
	for _, s := range []string{"null", "true", "false", ".inf", ".nan", "0o7", "0xb", "1e5", ".5e-1"} {
		for set := range 1 << len(s) {
			b := []byte(s)
			for i := range b {
				if set>>i&1 == 1 {
					b[i] = strings.ToUpper(s)[i]
				}
			}
			for _, sign := range []string{"", "+", "-"} {
				check(t, sign+string(b))
			}
		}
	}
}

// 8.1: a text that is one of another kind but for its sign is told by what the chapter lets stand behind one.
func TestSigns(t *testing.T) {
	for _, word := range words {
		for _, s := range samples[word] {
			for _, sign := range []string{"+", "-", "++", "+-", "-+", "--", " +", "+ "} {
				check(t, sign+s)
			}
		}
	}
}

// 8.2 (W2): every text has one tag of the five, which are five, and has it wherever it stands in memory and whatever was asked ahead of it: a scalar that is written as it was read keeps its tag.
func TestKeepsTag(t *testing.T) {
	tags := map[string]bool{}
	for _, word := range words {
		tags[core.Long(word)] = true
	}
	if len(tags) != len(words) {
		t.Fatalf("%d tags of %d words", len(tags), len(words))
	}
	var all []string
	for _, word := range words {
		all = append(all, samples[word]...)
	}
	first := map[string]string{}
	for _, s := range all {
		first[s] = core.Tag(s)
		if !tags[first[s]] {
			t.Errorf("Tag(%q) = %q, which is of no word", s, first[s])
		}
	}
	slices.Reverse(all)
	for _, s := range all {
		for _, c := range []struct{ before, after string }{{"", ""}, {"1", "1"}, {"+", "e5"}, {".", "."}, {"0x", "F"}, {"null", "null"}, {" ", "\n"}} {
			whole := c.before + s + c.after
			part := whole[len(c.before) : len(c.before)+len(s)]
			if got := core.Tag(part); got != first[s] {
				t.Errorf("Tag(%q) = %q within %q, and %q before", s, got, whole, first[s])
			}
		}
	}
}

// 8.1, 8.3: long texts end, and are told by their last byte too.
func TestLongTexts(t *testing.T) {
	const n = 1 << 20
	many := func(s string) string { return strings.Repeat(s, n) }
	for _, c := range []struct{ name, s, want string }{
		{"digits", many("9"), "int"},
		{"digits with a sign", "-" + many("0"), "int"},
		{"octal digits", "0o" + many("7"), "int"},
		{"hexadecimal digits", "0x" + many("f"), "int"},
		{"digits and a point", many("1") + ".", "float"},
		{"a point and digits", "." + many("1"), "float"},
		{"digits on both sides", "+" + many("1") + "." + many("2"), "float"},
		{"a long exponent", "1e-" + many("3"), "float"},
		{"all of it long", many("1") + "." + many("2") + "E+" + many("3"), "float"},
		{"digits and a letter", many("9") + "a", "str"},
		{"digits and a sign", many("9") + "-", "str"},
		{"octal digits and an 8", "0o" + many("7") + "8", "str"},
		{"hexadecimal digits and a g", "0x" + many("f") + "g", "str"},
		{"two points", many("1") + "." + many("2") + ".", "str"},
		{"an exponent without digits", many("1") + "." + many("2") + "e", "str"},
		{"an exponent and a blank", "1e" + many("3") + " ", "str"},
		{"signs", many("+"), "str"},
		{"points", many("."), "str"},
		{"letters", many("e"), "str"},
		{"nulls", many("null"), "str"},
		{"bytes of no code point", many("\xff"), "str"},
	} {
		if got := core.Tag(c.s); got != core.Long(c.want) {
			t.Errorf("Tag of %s, %d: %q, want %s", c.name, n, got, c.want)
		}
	}
}
