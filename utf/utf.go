// Package utf is layer 1: it tells bytes as characters, and makes texts right.
package utf

import "strings"

// unknown stands for what is no character, or may not be one.
const unknown rune = 65533

// Runes is bytes' characters.
func Runes(b []byte) []rune {
	var l []rune
	for _, r := range string(b) {
		l = append(l, r)
	}
	return l
}

// Text is characters' text.
func Text(l []rune) string {
	var out strings.Builder
	for _, r := range l {
		out.WriteRune(r) // that writes 65533 for one that may not be
	}
	return out.String()
}

// Right is bytes made right.
func Right(b []byte) string {
	var out strings.Builder
	ended := false // whether a 13 stands right ahead: its line's end is written already
	for _, r := range string(b) {
		switch {
		case r == '\r':
			out.WriteByte('\n')
		case r == '\n' && ended:
		case r == 0:
			out.WriteRune(unknown)
		default:
			out.WriteRune(r)
		}
		ended = r == '\r'
	}
	return out.String()
}

// Is tells whether a text is right.
func Is(s string) bool {
	for i, r := range s {
		if r == 0 || r == '\r' || r == unknown && !spelt(s[i:]) {
			return false
		}
	}
	return true
}

// spelt tells whether a text begins with the bytes of 65533: a range tells that character of wrong bytes as well.
func spelt(s string) bool {
	return strings.HasPrefix(s, string(unknown))
}

// Fold is a text with small letters.
func Fold(s string) string {
	b := []byte(s) // by bytes, as a range would lose those that are no character
	for i, c := range b {
		b[i] = small(c)
	}
	return string(b)
}

// Prefix tells whether a text begins with a word.
func Prefix(s, word string) bool {
	if len(s) < len(word) {
		return false
	}
	for i := range len(word) {
		if small(s[i]) != word[i] {
			return false
		}
	}
	return true
}

// small is a byte from A to Z as its small letter, another one as it is.
func small(c byte) byte {
	if 'A' <= c && c <= 'Z' {
		return c - 'A' + 'a'
	}
	return c
}
