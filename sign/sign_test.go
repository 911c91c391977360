package sign_test

import (
	"math"
	"strings"
	"testing"

	"bosket/sign"
)

const (
	letters    = "abcdefghijklmnopqrstuvwxyzABCDEFGHIJKLMNOPQRSTUVWXYZ"
	words      = letters + "0123456789-"
	flows      = ",[]{}"
	indicators = "-?:,[]{}#&*!|>'\"%@`"
	uris       = words + "#;/?:@&=+$_.!~*'()%,[]"
)

// has tells a class by a list of its bytes; strings.ContainsRune would take a byte from 0x80 up for a code point.
func has(class string, c byte) bool {
	return strings.IndexByte(class, c) >= 0
}

// 4.1: every class, for every byte, held against its list.
func TestClasses(t *testing.T) {
	for _, f := range []struct {
		name  string
		call  func(byte) bool
		class string
	}{
		{"White", sign.White, " \t"},
		{"Indicator", sign.Indicator, indicators},
		{"Flow", sign.Flow, flows},
		{"Word", sign.Word, words},
		{"Uri", sign.Uri, uris},
	} {
		count := 0
		for i := range 0x100 {
			c := byte(i)
			got := f.call(c)
			if got != has(f.class, c) {
				t.Errorf("%s(%q) = %v", f.name, c, got)
			}
			if got {
				count++
			}
		}
		if count != len(f.class) { // so that no list names a byte twice in place of another
			t.Errorf("%s holds for %d bytes, want %d", f.name, count, len(f.class))
		}
	}
}

// 4.1: what stands beside the classes, written out.
func TestBesideClasses(t *testing.T) {
	for _, f := range []struct {
		name string
		call func(byte) bool
		none string
	}{
		{"White", sign.White, "\n\r\v\f\x00\x1f!\x85\xa0"},
		{"Indicator", sign.Indicator, " \t\n\r$+./;<=()\\^_~09azAZ\x00\x7f\x80\xff"},
		{"Flow", sign.Flow, " \n()<>-:#|\"'+.Z\\^z~\x7f"},
		{"Word", sign.Word, "@[`{/:,._ \n\x00\x7f\xb2\xc3\xe9"},
		{"Uri", sign.Uri, "{}|\\^`<>\" \t\n\r\x00\x7f\x80\xff"}, // "{" is the chapter's example
	} {
		for _, c := range []byte(f.none) {
			if f.call(c) {
				t.Errorf("%s(%q) = true", f.name, c)
			}
		}
	}
}

// 4.1: where something ends, written out.
func TestEnds(t *testing.T) {
	for _, c := range []struct {
		s    string
		at   int
		want bool
	}{
		{"", 0, true},
		{"", -1, true},
		{"", 1, true},
		{"a", 0, false},
		{"a", 1, true}, // the end
		{"a", 2, true},
		{"a", -1, true},
		{"a b", 1, true},
		{"a b", 2, false},
		{"a\tb", 1, true},
		{"a\nb", 1, true},
		{"\n", 0, true},
		{"a\rb", 1, false}, // a text has none, so CR is a byte as any other
		{"a\vb", 1, false},
		{"a\x00b", 1, false},
		{"a,b", 1, false}, // a name ends there, but nothing else
		{"[]{}", 0, false},
		{"[]{}", 3, false},
		{"#", 0, false},
		{"a\u0085b", 1, false},
		{"a\u00a0b", 1, false},
		{"a\u2028b", 1, false},
		{"é ", 1, false}, // within a code point
		{"é ", 2, true},
		{"a\xff", 1, false},
		{"a", math.MaxInt, true},
		{"a", math.MinInt, true},
	} {
		if got := sign.Ends(c.s, c.at); got != c.want {
			t.Errorf("Ends(%q, %d) = %v, want %v", c.s, c.at, got, c.want)
		}
	}
}

// 4.1: names, written out.
func TestName(t *testing.T) {
	for _, c := range []struct {
		s        string
		at, want int
	}{
		{"ab]", 0, 2}, // the chapter's example
		{"ab]", 1, 1},
		{"ab]", 2, 0},
		{"ab]", 3, 0},
		{"", 0, 0},
		{"a", 0, 1},
		{"a", 1, 0},
		{"a", 2, 0},
		{"a", -1, 0},
		{"a b", 0, 1},
		{"a b", 1, 0},
		{"a b", 2, 1},
		{"a\tb", 0, 1},
		{"a\nb", 0, 1},
		{"a,b", 0, 1},
		{"a[b", 0, 1},
		{"a]b", 0, 1},
		{"a{b", 0, 1},
		{"a}b", 0, 1},
		{",a", 0, 0},
		{"\na", 0, 0},
		{"&a *b", 1, 1},
		{"a: b", 0, 2},                          // a colon belongs to it
		{"-?:#&*!|>'\"%@`()<>=+$._~/\\", 0, 26}, // as does every other sign
		{"éa€😀,", 0, 10},                        // bytes, not code points
		{"éa", 1, 2},                            // from within one
		{"a\u0085\u00a0\u2028b c", 0, 9},        // no white, and no end of a row
		{"a\rb c", 0, 3},
		{"a\x00\x7f\v b", 0, 4},
		{"\xff\xfe\x80", 0, 3},
		{"ab", math.MaxInt, 0},
		{"ab", math.MaxInt - 1, 0},
		{"ab", math.MinInt, 0},
	} {
		if got := sign.Name(c.s, c.at); got != c.want {
			t.Errorf("Name(%q, %d) = %d, want %d", c.s, c.at, got, c.want)
		}
	}
}

// check holds Ends and Name against the chapter's words for s, at every place in it and outside of it.
func check(t *testing.T, s string) {
	t.Helper()
	for at := -2; at <= len(s)+2; at++ {
		ends, name := true, 0
		if at >= 0 && at < len(s) {
			ends = has(" \t\n", s[at])
			name = strings.IndexAny(s[at:], " \t\n"+flows)
			if name < 0 {
				name = len(s) - at
			}
		}
		if got := sign.Ends(s, at); got != ends {
			t.Fatalf("Ends(%q, %d) = %v", s, at, got)
		}
		if got := sign.Name(s, at); got != name {
			t.Fatalf("Name(%q, %d) = %d, want %d", s, at, got, name)
		}
	}
}

// 4.1, 4.3: every text of one and of two bytes.
func TestEveryPairOfBytes(t *testing.T) {
	check(t, "")
	for a := range 0x100 {
		check(t, string([]byte{byte(a)}))
		for b := range 0x100 {
			check(t, string([]byte{byte(a), byte(b)}))
		}
	}
}

// 4.1: every text of up to four parts.
func TestEveryText(t *testing.T) {
	parts := []string{"", "a", " ", "\t", "\n", "\r", ",", "[", "]", "{", "}", ":", "#", "é", "😀", "\xff"}
	for _, a := range parts {
		for _, b := range parts {
			for _, c := range parts {
				for _, d := range parts {
					check(t, a+b+c+d)
				}
			}
		}
	}
}

// 4.2 (W1): any text falls apart into names and the bytes between them, and no byte is left out or told twice.
func TestTotal(t *testing.T) {
	for s, want := range map[string]string{
		"":                          "",
		"a: [b, *c]\n":              "a:|b|*c|",
		"\t{é: \xff}# d":            "é:|\xff|#|d|",
		"&a !b 'c,d'\n- \"e\"":      "&a|!b|'c|d'|-|\"e\"|",
		" ,[]{}\n\t":                "",
		"one":                       "one|",
		"%TAG ! tag:x.org,2000:\n.": "%TAG|!|tag:x.org|2000:|.|",
	} {
		names := ""
		for at := 0; at < len(s); {
			n := sign.Name(s, at)
			if apart := sign.Ends(s, at) || sign.Flow(s[at]); apart != (n == 0) {
				t.Errorf("at %d of %q: a name of %d bytes, apart %v", at, s, n, apart)
			}
			if n > 0 {
				names += s[at:at+n] + "|"
			}
			at += max(n, 1)
		}
		if names != want {
			t.Errorf("the names of %q are %q, want %q", s, names, want)
		}
	}
}

// 4.3: no number, however far outside, makes a call panic.
func TestFarNumbers(t *testing.T) {
	for _, s := range []string{"", "a", "\n", "a b,", "é\xff"} {
		for _, at := range []int{math.MinInt, math.MinInt + 1, math.MinInt32, -1, len(s), len(s) + 1, math.MaxInt32, math.MaxInt - 1, math.MaxInt} {
			if !sign.Ends(s, at) {
				t.Errorf("Ends(%q, %d) = false", s, at)
			}
			if got := sign.Name(s, at); got != 0 {
				t.Errorf("Name(%q, %d) = %d", s, at, got)
			}
		}
	}
}

// 4.1, 4.3: a long name ends.
func TestLong(t *testing.T) {
	const n = 1 << 20
	for _, end := range []string{"", " ", "\t", "\n", ",", "}x"} {
		s := strings.Repeat("a", n) + end
		if got := sign.Name(s, 0); got != n {
			t.Errorf("Name ahead of %q = %d, want %d", end, got, n)
		}
		if got := sign.Name(s, n-1); got != 1 {
			t.Errorf("Name of the byte ahead of %q = %d, want 1", end, got)
		}
	}
}
