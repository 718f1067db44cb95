// Package text holds what all packages know of bytes: which ones words are made of, how texts are quoted.
package text

import "strings"

// Small says whether c is a small letter: what a word begins with.
func Small(c byte) bool {
	return 'a' <= c && c <= 'z'
}

// Digit says whether c is a decimal digit.
func Digit(c byte) bool {
	return '0' <= c && c <= '9'
}

// Within says whether c may stand in a word, behind its first byte.
func Within(c byte) bool {
	return Small(c) || Digit(c) || c == '_'
}

// Escaped says whether c has a backslash ahead of it in quotes.
func Escaped(c byte) bool {
	return c == '"' || c == '\\'
}

// Quote is s in quotes.
func Quote(s string) string {
	var b strings.Builder
	b.Grow(len(s) + len(`""`))
	b.WriteByte('"')
	for i := range len(s) {
		if Escaped(s[i]) {
			b.WriteByte('\\')
		}
		b.WriteByte(s[i])
	}
	b.WriteByte('"')
	return b.String()
}
