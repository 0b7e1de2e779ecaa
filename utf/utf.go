// Package utf is layer 1, bytes as texts: see shared/doc/01-utf.md.
//
// Its characters are just those that ranging over a string goes through: a
// right sequence, or one byte alone where none begins.
package utf

import "strings"

// instead stands where a byte may not; ranging over a string tells it, too,
// for a byte with which no right sequence begins.
const instead = '\uFFFD'

// Valid tells whether all characters of a text are right sequences.
func Valid(s string) bool {
	for i, r := range s {
		if !right(s, i, r) {
			return false
		}
	}
	return true
}

// right tells whether the character at i, which ranging told as r, is a right
// sequence. U+FFFD may stand in a text of its own right, so that r alone does
// not tell; its three bytes do.
func right(s string, i int, r rune) bool {
	return r != instead || strings.HasPrefix(s[i:], string(instead))
}

// Fix are bytes as a right text, without the bytes 0 and 13.
func Fix(b []byte) string {
	var out strings.Builder
	var last rune
	for _, r := range string(b) {
		switch {
		case r == 0:
			out.WriteRune(instead)
		case r == '\r':
			out.WriteByte('\n')
		case r == '\n' && last == '\r':
			// The byte 13 ahead has ended this line already.
		default:
			out.WriteRune(r)
		}
		last = r
	}
	return out.String()
}

// Lower is a text with 32 more for each byte from 65 to 90. All other bytes
// stay, wrong ones as well, so that the runes are not written anew.
func Lower(s string) string {
	out := []byte(s)
	for i, r := range s {
		if 'A' <= r && r <= 'Z' {
			out[i] += 'a' - 'A'
		}
	}
	return string(out)
}

// Cut are a text's first characters, as many as have at most n bytes. It is a
// copy, since what is answered shares nothing with what was handed in.
func Cut(s string, n int) string {
	if n >= len(s) {
		return strings.Clone(s)
	}
	end := 0
	for i := range s {
		if i > n {
			break
		}
		end = i
	}
	return strings.Clone(s[:end])
}

// Many is how many characters a text has.
func Many(s string) int {
	n := 0
	for range s {
		n++
	}
	return n
}
