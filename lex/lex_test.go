package lex_test

import (
	"fmt"
	"math"
	"math/rand"
	"slices"
	"strings"
	"testing"

	"klaxon/api"
	"klaxon/lex"
)

func num(n int) api.Token       { return api.Token{Kind: api.TNum, N: n} }
func word(s string) api.Token   { return api.Token{Kind: api.TWord, Text: s} }
func quoted(s string) api.Token { return api.Token{Kind: api.TText, Text: s} }
func sign(s string) api.Token   { return api.Token{Kind: api.TSign, Text: s} }

// bare is ts without their places.
func bare(ts []api.Token) []api.Token {
	l := slices.Clone(ts)
	for i := range l {
		l[i].At = 0
	}
	return l
}

var (
	long24 = strings.Repeat("a", api.MaxText)
	long25 = strings.Repeat("a", api.MaxText+1)
	all    = []string{"!=", "^=", "!^", "==", "<=", ">=", "(", ")", "{", "}", "[", "]", ",", "=", "<", ">", "+", "-", "*", "/", "%", ":"}
)

func TestSigns(t *testing.T) {
	got := lex.Signs()
	if !slices.Equal(got, all) {
		t.Fatal(got)
	}
	got[0] = "spoiled"
	if !slices.Equal(lex.Signs(), all) {
		t.Error("what is answered is kept")
	}
	for _, s := range all {
		if got, at, err := lex.Tokens(s); err != api.OK || at != 0 || !slices.Equal(got, []api.Token{sign(s)}) {
			t.Errorf("Tokens(%q) = %v, %d, %d", s, got, at, err)
		}
	}
}

func TestTokens(t *testing.T) {
	for _, c := range []struct {
		s    string
		want []api.Token
	}{
		{"", nil},
		{" \n  ", nil},
		{"(a >= -5)", []api.Token{sign("("), word("a"), sign(">="), num(-5), sign(")")}},
		{"a-5", []api.Token{word("a"), num(-5)}},
		{"a - 5", []api.Token{word("a"), sign("-"), num(5)}},
		{"5-5", []api.Token{num(5), num(-5)}},
		{"--5", []api.Token{sign("-"), num(-5)}},
		{"- -", []api.Token{sign("-"), sign("-")}},
		{"-a", []api.Token{sign("-"), word("a")}},
		{"5 5", []api.Token{num(5), num(5)}},
		{"007", []api.Token{num(7)}},
		{"-0", []api.Token{num(0)}},
		{"00000000000000000000000000000000000000012", []api.Token{num(12)}},
		{"9223372036854775807", []api.Token{num(math.MaxInt)}},
		{"-9223372036854775808", []api.Token{num(math.MinInt)}},
		{"-9223372036854775807 9223372036854775806", []api.Token{num(-math.MaxInt), num(math.MaxInt - 1)}},
		{"5a", []api.Token{num(5), word("a")}},
		{"a5_", []api.Token{word("a5_")}},
		{"a\nb", []api.Token{word("a"), word("b")}},
		{long24, []api.Token{word(long24)}},
		{long24 + " " + long24, []api.Token{word(long24), word(long24)}},
		{`""`, []api.Token{quoted("")}},
		{`"a""b"c`, []api.Token{quoted("a"), quoted("b"), word("c")}},
		{`"\"\\"`, []api.Token{quoted(`"\`)}},
		{"\"\n\x00\xff \"", []api.Token{quoted("\n\x00\xff ")}},
		{`"` + long24 + `"`, []api.Token{quoted(long24)}},
		{`"` + strings.Repeat(`\\`, 24) + `"`, []api.Token{quoted(strings.Repeat(`\`, 24))}},
		{"!^=", []api.Token{sign("!^"), sign("=")}},
		{"===", []api.Token{sign("=="), sign("=")}},
		{"<>=", []api.Token{sign("<"), sign(">=")}},
		{"!==", []api.Token{sign("!="), sign("=")}},
		{"^==", []api.Token{sign("^="), sign("=")}},
		{"=<=", []api.Token{sign("="), sign("<=")}},
		{"(){}[],:", []api.Token{sign("("), sign(")"), sign("{"), sign("}"), sign("["), sign("]"), sign(","), sign(":")}},
		{`{a="x",b!^"y"}[10]`, []api.Token{sign("{"), word("a"), sign("="), quoted("x"), sign(","), word("b"), sign("!^"), quoted("y"), sign("}"), sign("["), num(10), sign("]")}},
	} {
		got, at, err := lex.Tokens(c.s)
		if err != api.OK || at != 0 || !slices.Equal(bare(got), c.want) {
			t.Errorf("Tokens(%q) = %v, %d, %d", c.s, got, at, err)
		}
	}
}

func TestAt(t *testing.T) {
	got, _, err := lex.Tokens(" (ab >= -5)\n\"\\\"\"7")
	var ats []int
	for _, x := range got {
		ats = append(ats, x.At)
	}
	if err != api.OK || !slices.Equal(ats, []int{1, 2, 5, 8, 10, 12, 16}) {
		t.Error(got, err)
	}
}

func TestNone(t *testing.T) {
	for _, c := range []struct {
		s  string
		at int
	}{
		{`"x`, 0}, {"1 $", 2}, {"$", 0}, {"\t", 0}, {"a\tb", 1}, {"a\r\n", 1}, {"A", 0}, {"aB", 1}, {"_a", 0}, {"é", 0}, {"\x00", 0}, {"a\xff", 1},
		{"9223372036854775808", 0}, {"-9223372036854775809", 0}, {"a -9223372036854775809", 2}, {"99999999999999999999999999", 0}, {"-99999999999999999999999999", 0}, {"92233720368547758070", 0}, {"18446744073709551616", 0}, {"18446744073709551617", 0},
		{long25, 0}, {"a " + long25 + " $", 2}, {`a "` + long25 + `"`, 2}, {`"`, 0}, {`a "b`, 2}, {`"\`, 0}, {`"\"`, 0}, {`"\a"`, 0}, {`"\\\"`, 0}, {`"a" "b\n"`, 4}, {`"` + strings.Repeat(`\"`, 25) + `"`, 0},
		{"!", 0}, {"^", 0}, {"a ! =", 2}, {"a^b", 1}, {"&", 0}, {"a;b", 1}, {".5", 0}, {"5.5", 1}, {"'a'", 0},
	} {
		got, at, err := lex.Tokens(c.s)
		if err != api.ErrForm || at != c.at || len(got) != 0 {
			t.Errorf("Tokens(%q) = %v, %d, %d; want none at %d", c.s, got, at, err, c.at)
		}
	}
}

func TestMaxTokens(t *testing.T) {
	s := strings.Repeat("a ", api.MaxTokens)
	if got, at, err := lex.Tokens(s); err != api.OK || at != 0 || len(got) != api.MaxTokens {
		t.Error("MaxTokens", len(got), at, err)
	}
	for _, tail := range []string{"a", "a b", "$", "a $"} {
		if got, at, err := lex.Tokens(s + "  " + tail); err != api.ErrForm || at != len(s)+2 || len(got) != 0 {
			t.Error("one more", tail, len(got), at, err)
		}
	}
	if got, at, err := lex.Tokens("$ " + s + "a"); err != api.ErrForm || at != 0 || len(got) != 0 {
		t.Error("the first one", len(got), at, err)
	}
}

func TestJoin(t *testing.T) {
	for _, c := range []struct {
		ts   []api.Token
		want string
	}{
		{nil, ""},
		{[]api.Token{num(5)}, "5"},
		{[]api.Token{num(-5), num(math.MinInt)}, "-5 -9223372036854775808"},
		{[]api.Token{sign("("), word("a"), sign(">="), num(-5), sign(")")}, "( a >= -5 )"},
		{[]api.Token{quoted(`a"\`), quoted("")}, `"a\"\\" ""`},
		{[]api.Token{{Kind: 0, N: 7, Text: "x"}}, ""},
		{[]api.Token{{Kind: 5, N: 7, Text: "x"}}, ""},
		{[]api.Token{{Kind: api.TWord, N: 7, Text: "x", At: 9}}, "x"},
	} {
		if got := lex.Join(c.ts...); got != c.want {
			t.Errorf("Join(%v) = %q", c.ts, got)
		}
	}
}

func TestJoinBack(t *testing.T) {
	pool := []api.Token{num(0), num(5), num(-5), num(math.MaxInt), num(math.MinInt), word("a"), word("by"), word(long24), word("a0_"), quoted(""), quoted(`"`), quoted(`\`), quoted("\n $"), quoted(long24)}
	for _, s := range all {
		pool = append(pool, sign(s))
	}
	dice := rand.New(rand.NewSource(7))
	for range 2000 {
		var ts []api.Token
		for range dice.Intn(12) {
			ts = append(ts, pool[dice.Intn(len(pool))])
		}
		got, at, err := lex.Tokens(lex.Join(ts...))
		if err != api.OK || at != 0 || !slices.Equal(bare(got), ts) {
			t.Fatalf("%v: %v, %d, %d", ts, got, at, err)
		}
	}
}

// Of any bytes: an error at one of them, or tokens at rising bytes that join to the same tokens.
func TestAnyBytes(t *testing.T) {
	dice := rand.New(rand.NewSource(77))
	letters := "ab_059-\"\\ \n!^=<>(){}[],+*/%:$\x00\xff"
	for range 20000 {
		b := make([]byte, dice.Intn(14))
		for i := range b {
			b[i] = letters[dice.Intn(len(letters))]
		}
		got, at, err := lex.Tokens(string(b))
		switch {
		case err == api.ErrForm && (at < 0 || at >= len(b) || len(got) != 0):
			t.Fatalf("%q: %v, %d, %d", b, got, at, err)
		case err == api.ErrForm:
			// What stands ahead of that byte has its tokens.
			if _, _, err := lex.Tokens(string(b[:at])); err != api.OK {
				t.Fatalf("%q: not the first byte: %d", b, at)
			}
		case err != api.OK || at != 0:
			t.Fatalf("%q: %v, %d, %d", b, got, at, err)
		}
		again, _, _ := lex.Tokens(lex.Join(got...))
		if fmt.Sprint(bare(again)) != fmt.Sprint(bare(got)) {
			t.Fatalf("%q: %v, joined %v", b, got, again)
		}
	}
}
