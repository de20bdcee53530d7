// Package utf is layer 1: bytes as characters of UTF-8. See shared/doc/01-utf.md.
package utf

import (
	"strings"
	"unicode/utf8"
)

// wrong stands for what is no character, and for a 0: three bytes of UTF-8.
const wrong = utf8.RuneError

// Runes is bytes' characters.
func Runes(b []byte) []rune {
	s := string(b)
	l := make([]rune, 0, utf8.RuneCountInString(s))
	for _, r := range s {
		l = append(l, r)
	}
	return l
}

// Text is characters' text.
func Text(l []rune) string {
	var out strings.Builder
	out.Grow(len(l))
	for _, r := range l {
		out.WriteRune(r)
	}
	return out.String()
}

// Right is bytes made right.
func Right(b []byte) string {
	var out strings.Builder
	out.Grow(len(b))
	ahead := rune(0)
	for _, r := range string(b) {
		switch {
		case r == '\r':
			out.WriteByte('\n')
		case r == '\n' && ahead == '\r':
			// The 13 ahead of it was told as a 10, which is both.
		case r == 0:
			out.WriteRune(wrong)
		default:
			out.WriteRune(r)
		}
		ahead = r
	}
	return out.String()
}

// Is tells whether a text is right.
func Is(s string) bool {
	for i, r := range s {
		if r == 0 || r == '\r' || r == wrong && !written(s[i:]) {
			return false
		}
	}
	return true
}

// written tells whether 65533 itself begins a text: a range tells a byte that is no character by the same number.
func written(s string) bool {
	return strings.HasPrefix(s, string(wrong))
}

// Fold is a text with small letters.
func Fold(s string) string {
	// Byte by byte, as a range over the text would change bytes that are no characters.
	b := []byte(s)
	for i, c := range b {
		b[i] = small(c)
	}
	return string(b)
}

// Prefix tells whether a text begins with a word.
func Prefix(s, word string) bool {
	if len(s) < len(word) {
		return false
	}
	for i := range len(word) {
		if small(s[i]) != word[i] {
			return false
		}
	}
	return true
}

// small is a byte from A to Z as one from a to z, and others as they are.
func small(c byte) byte {
	if 'A' <= c && c <= 'Z' {
		return c + ('a' - 'A')
	}
	return c
}
