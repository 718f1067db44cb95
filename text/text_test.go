package text_test

import (
	"strings"
	"testing"

	"klaxon/text"
)

func TestBytes(t *testing.T) {
	const small, digits = "abcdefghijklmnopqrstuvwxyz", "0123456789"
	for c := range 256 {
		in := func(s string) bool { return strings.IndexByte(s, byte(c)) >= 0 }
		if text.Small(byte(c)) != in(small) || text.Digit(byte(c)) != in(digits) || text.Within(byte(c)) != in(small+digits+"_") || text.Escaped(byte(c)) != in(`"\`) {
			t.Error("byte", c)
		}
	}
}

func TestQuote(t *testing.T) {
	for s, want := range map[string]string{"": `""`, "x": `"x"`, `a"b\`: `"a\"b\\"`, "\n\xff": "\"\n\xff\""} {
		if got := text.Quote(s); got != want {
			t.Errorf("Quote(%q) = %q", s, got)
		}
	}
}
