// Package utf is layer 1: see shared/doc/01-utf.md.
package utf

import (
	"iter"
	"unicode/utf8"

	"whisperer/api"
)

// The numbers among those of characters that are none.
const (
	firstSurrogate = 55296
	lastSurrogate  = 57343
)

// Next is the character that bytes begin with, and how many bytes it has; with ErrShort and ErrForm how many bytes are to be passed over in its place.
func Next(b []byte) (int, int, api.Errno) {
	if len(b) == 0 {
		return 0, 0, api.ErrNone
	}
	// U+FFFD is a character like all others: only the width of 1 tells that something isn't right.
	if r, n := utf8.DecodeRune(b); r != utf8.RuneError || n > 1 {
		return int(r), n, api.OK
	}
	n := begun(b)
	if n == len(b) {
		return 0, n, api.ErrShort
	}
	return 0, max(n, 1), api.ErrForm
}

// begun is how many of the first bytes are a beginning, at most. Each part of a beginning is one, so the first length that is none ends the search.
func begun(b []byte) int {
	n := 0
	for n < len(b) && !utf8.FullRune(b[:n+1]) {
		n++
	}
	return n
}

// Put are a character's bytes.
func Put(c int) ([]byte, api.Errno) {
	if !isCharacter(c) {
		return nil, api.ErrRange
	}
	return utf8.AppendRune(nil, rune(c)), api.OK
}

// isCharacter is asked of the int: as a rune of 32 bits a number too great could wrap round to a character.
func isCharacter(c int) bool {
	return c >= 0 && c <= utf8.MaxRune && (c < firstSurrogate || c > lastSurrogate)
}

// Printable asks whether a number is a character that may be shown.
func Printable(c int) bool {
	return isCharacter(c) && c >= 32 && (c < 127 || c > 159)
}

// Text are bytes with what isn't right replaced by U+FFFD.
func Text(b []byte) []byte {
	var text []byte
	for c := range characters(b) {
		text = utf8.AppendRune(text, c)
	}
	return text
}

// Count is how many characters the Text of bytes has.
func Count(b []byte) int {
	n := 0
	for range characters(b) {
		n++
	}
	return n
}

// characters tells those of b's Text. A text's range goes on by one byte where something isn't right, Next by a whole beginning: what lies in that one is passed over.
func characters(b []byte) iter.Seq[rune] {
	return func(yield func(rune) bool) {
		from := 0
		for i, c := range string(b) {
			if i < from {
				continue
			}
			_, n, _ := Next(b[i:])
			from = i + n
			if !yield(c) {
				return
			}
		}
	}
}
