// Package utfs turns texts into code points and back: see chapter 1 of DOC.md.
package utfs

// A range over a string answers substitute both for a byte that is part of no code point and for
// U+FFFD itself, whose bytes are encoded.
const (
	substitute = '\ufffd'
	encoded    = "\ufffd"
)

// Place returns the offset of the first byte that is not part of an encoded code point, or -1.
func Place(s string) int {
	for at, r := range s {
		if r == substitute && !spelled(s[at:]) {
			return at
		}
	}
	return -1
}

// spelled reports whether s begins with an encoded U+FFFD.
func spelled(s string) bool {
	return len(s) >= len(encoded) && s[:len(encoded)] == encoded
}

// Runes returns the code points of s, with U+FFFD for each byte that is not part of one.
func Runes(s string) []rune {
	rs := make([]rune, 0, Width(s))
	for _, r := range s {
		rs = append(rs, r)
	}
	return rs
}

// Text returns the encodings of rs, with that of U+FFFD for a number that is not a code point.
func Text(rs ...rune) string {
	return string(rs)
}

// Width returns how many elements Runes(s) has.
func Width(s string) int {
	n := 0
	for range s {
		n++
	}
	return n
}
