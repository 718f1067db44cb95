package lset_test

import (
	"fmt"
	"slices"
	"strings"
	"testing"

	"klaxon/api"
	"klaxon/lset"
)

// set makes labels of names and values.
func set(words ...string) []api.Label {
	var l []api.Label
	for i := 0; i < len(words); i += 2 {
		l = append(l, api.Label{Name: words[i], Value: words[i+1]})
	}
	return l
}

// roomy is l with room behind it, full of marks.
func roomy[T any](l []T, mark T) []T {
	with := append(slices.Clone(l), mark, mark, mark)
	return with[:len(l)]
}

// spoiled says whether l, or the room behind it, isn't what roomy made any more.
func spoiled[T comparable](now, l []T, mark T) bool {
	return !slices.Equal(now[:len(l)+3], append(slices.Clone(l), mark, mark, mark))
}

func same(a, b []api.Label) bool { return slices.Equal(a, b) }

var (
	long24 = strings.Repeat("a", api.MaxText)
	long25 = strings.Repeat("a", api.MaxText+1)
)

func TestWord(t *testing.T) {
	for _, s := range []string{"a", "z", "a0", "a_", "az09_", "name", long24} {
		if !lset.Word(s) {
			t.Errorf("%q is a word", s)
		}
	}
	for _, s := range []string{"", "_", "0a", "A", "aB", "a-", "a b", " a", "a ", "a\n", "é", "aé", "a\x00", "`", "{", "a`", "a{", "a/", "a:", "a^", "1", long25} {
		if lset.Word(s) {
			t.Errorf("%q is no word", s)
		}
	}
}

func TestRight(t *testing.T) {
	six := set("a", "1", "b", "1", "c", "1", "d", "1", "e", "1", "f", "1")
	for _, l := range [][]api.Label{nil, {}, set("a", "x"), set("a", "x", "b", "y"), six, set("a", long24), set(long24, "x"), set("a", "\x00\xff\n\" \\"), set("a", "1", "a0", "1", "a_", "1", "aa", "1")} {
		if !lset.Right(l) {
			t.Error("is right:", l)
		}
	}
	for _, l := range [][]api.Label{
		append(slices.Clone(six), api.Label{Name: "g", Value: "1"}),
		set("a", ""), set("", "x"), set("a", long25), set(long25, "x"), set("A", "x"),
		set("b", "1", "a", "2"), set("a", "1", "a", "2"), set("a", "1", "a", "1"), set("a", "1", "c", "1", "b", "1"), set("a", "1", "b", ""),
	} {
		if lset.Right(l) {
			t.Error("isn't right:", l)
		}
	}
}

func TestQuote(t *testing.T) {
	for s, want := range map[string]string{
		"": `""`, "x": `"x"`, `"`: `"\""`, `\`: `"\\"`, `y"z`: `"y\"z"`, `\"\`: `"\\\"\\"`, "\n\x00\xff{,=": "\"\n\x00\xff{,=\"",
		long25: `"` + long25 + `"`,
	} {
		if got := lset.Quote(s); got != want {
			t.Errorf("Quote(%q) = %q, want %q", s, got, want)
		}
	}
}

func TestPrint(t *testing.T) {
	for _, c := range []struct {
		l    []api.Label
		want string
	}{
		{nil, "{}"},
		{[]api.Label{}, "{}"},
		{set("a", "x"), `{a="x"}`},
		{set("a", "x", "b", `y"z`), `{a="x",b="y\"z"}`},
		{set("a", `\`, "b", "\xff", "c", " "), "{a=\"\\\\\",b=\"\xff\",c=\" \"}"},
		{set("b", "1", "a", "2"), ""},
		{set("a", ""), ""},
		{set("a", "1", "a", "1"), ""},
		{set("A", "1"), ""},
	} {
		if got := lset.Print(c.l); got != c.want {
			t.Errorf("Print(%v) = %q, want %q", c.l, got, c.want)
		}
		if c.want == "" {
			continue
		}
		if got, ok := lset.Parse(c.want); !ok || !same(got, c.l) {
			t.Errorf("Parse(%q) = %v, %v", c.want, got, ok)
		}
	}
}

func TestParseBack(t *testing.T) {
	values := []string{"x", `"`, `\`, `\"`, `"\`, `\\""`, "\n", "\x00\x01\xfe\xff", ",", "}", `",b="`, long24, strings.Repeat(`"`, api.MaxText), strings.Repeat(`\`, api.MaxText)}
	for _, v := range values {
		for _, w := range values {
			l := set("a", v, long24, w)
			got, ok := lset.Parse(lset.Print(l))
			if !ok || !same(got, l) {
				t.Errorf("Parse of the print of %q = %q, %v", l, got, ok)
			}
		}
	}
}

func TestParseNone(t *testing.T) {
	for _, s := range []string{
		"", "{", "}", "{}}", "{{}", " {}", "{} ", "{ }", "{,}", `{a="x",}`, `{,a="x"}`, `{a="x",,b="y"}`, `{a="x"b="y"}`, `{a="x";b="y"}`,
		`{b="1",a="2"}`, `{a="1",a="1"}`, `{a="1",a="2"}`, `{a=""}`, `{="x"}`, `{a}`, `{a=}`, `{a=x}`, `{a="x}`, `{a="x"`, `{a="x`, `{a="`, `{a=`, `{a`,
		`{a="\x"}`, `{a="\"}`, `{a="\`, `{a="\n"}`, `{A="x"}`, `{1="x"}`, `{a ="x"}`, `{a= "x"}`, `{ a="x"}`, `{a="x" }`, `{a="x", b="y"}`, `{a=="x"}`, `{a='x'}`,
		`{a="` + long25 + `"}`, `{` + long25 + `="x"}`, `{a="x"}x`, `a="x"`, `{a="1",b="1",c="1",d="1",e="1",f="1",g="1"}`, "{a=\"x\"}\n", `"x"`, "x",
	} {
		if got, ok := lset.Parse(s); ok || len(got) != 0 {
			t.Errorf("Parse(%q) = %v, %v", s, got, ok)
		}
	}
}

func TestParseNothingElse(t *testing.T) {
	// Whatever byte of a print is another one: it is none, or what prints to just that.
	s := `{a="x",b="\"\\",c="yy"}`
	for i := range len(s) {
		for _, c := range []byte("ab{}=,\"\\ x\x00\xff0_\n") {
			for _, text := range []string{s[:i] + string([]byte{c}) + s[i+1:], s[:i] + string([]byte{c}) + s[i:], s[:i] + s[i+1:], s[:i]} {
				if l, ok := lset.Parse(text); ok && lset.Print(l) != text {
					t.Errorf("Parse(%q) = %v", text, l)
				}
			}
		}
	}
}

func TestGet(t *testing.T) {
	l := set("a", "1", "b", "2", "a", "3", "c", "", "c", "4")
	for name, want := range map[string]string{"a": "1", "b": "2", "c": "", "d": "", "": ""} {
		if got := lset.Get(l, name); got != want {
			t.Errorf("Get %q = %q", name, got)
		}
	}
	if got := lset.Get(nil, "a"); got != "" {
		t.Error("of none", got)
	}
	if got := lset.Get(set("", "x"), ""); got != "x" {
		t.Error("of the empty name", got)
	}
}

func TestWith(t *testing.T) {
	for _, c := range []struct {
		l           []api.Label
		name, value string
		want        []api.Label
	}{
		{set("a", "x"), "b", "1", set("a", "x", "b", "1")},
		{nil, "b", "1", set("b", "1")},
		{nil, "b", "", nil},
		{set("b", "x", "d", "y"), "a", "1", set("a", "1", "b", "x", "d", "y")},
		{set("b", "x", "d", "y"), "b", "1", set("b", "1", "d", "y")},
		{set("b", "x", "d", "y"), "c", "1", set("b", "x", "c", "1", "d", "y")},
		{set("b", "x", "d", "y"), "d", "1", set("b", "x", "d", "1")},
		{set("b", "x", "d", "y"), "e", "1", set("b", "x", "d", "y", "e", "1")},
		{set("b", "x", "d", "y"), "d", "", set("b", "x")},
		{set("b", "x", "d", "y"), "b", "", set("d", "y")},
		{set("b", "x", "d", "y"), "c", "", set("b", "x", "d", "y")},
		{set("a", "1", "a", "2", "b", "3"), "a", "4", set("a", "4", "b", "3")},
		{set("a", "1", "b", "3", "b", "2"), "b", "", set("a", "1")},
		{set("a", "1", "b", "1", "c", "1", "d", "1", "e", "1", "f", "1"), "g", "1", set("a", "1", "b", "1", "c", "1", "d", "1", "e", "1", "f", "1", "g", "1")},
	} {
		if got := lset.With(c.l, c.name, c.value); !same(got, c.want) {
			t.Errorf("With(%v, %q, %q) = %v", c.l, c.name, c.value, got)
		}
	}
}

func TestKeepDrop(t *testing.T) {
	l := set("a", "1", "b", "2", "c", "3", "b", "4")
	for _, c := range []struct {
		names      []string
		keep, drop []api.Label
	}{
		{nil, nil, l},
		{[]string{"b"}, set("b", "2", "b", "4"), set("a", "1", "c", "3")},
		{[]string{"c", "a", "a", "z", ""}, set("a", "1", "c", "3"), set("b", "2", "b", "4")},
		{[]string{"c", "b", "a"}, l, nil},
		{[]string{"z"}, nil, l},
	} {
		if got := lset.Keep(l, c.names...); !same(got, c.keep) {
			t.Error("Keep", c.names, got)
		}
		if got := lset.Drop(l, c.names...); !same(got, c.drop) {
			t.Error("Drop", c.names, got)
		}
	}
}

func TestCompare(t *testing.T) {
	// Each is ahead of the next one, byte by byte of the prints; what isn't right is ahead of all.
	rising := [][]api.Label{
		set("b", "1", "a", "2"),
		set("a", "\x00"),
		set("a", "x", "b", "y"),
		set("a", "x"),
		set("a", "xy"),
		set("a", "\xff"),
		set("a0", "x"),
		set("a_", "x"),
		set("aa", "x"),
		set("b", "x"),
		nil,
	}
	slices.SortStableFunc(rising, func(a, b []api.Label) int { return strings.Compare(lset.Print(a), lset.Print(b)) })
	for i, a := range rising {
		for j, b := range rising {
			want := strings.Compare(fmt.Sprintf("%04d", i), fmt.Sprintf("%04d", j))
			if got := lset.Compare(a, b); got != want {
				t.Errorf("Compare(%v, %v) = %d, want %d", a, b, got, want)
			}
		}
	}
	if lset.Compare(set("a", ""), set("A", "x")) != 0 || lset.Compare(set("a", ""), nil) != -1 || lset.Compare(nil, set("a", "")) != 1 {
		t.Error("sets that aren't right print to the empty text")
	}
	if lset.Compare(set("a", `"`), set("a", "[")) != 1 || lset.Compare(set("a", "x", "b", "y"), set("a", "x")) != -1 || lset.Compare(set("a", "x"), nil) != -1 {
		t.Error("it isn't the prints that are compared")
	}
}

// spoil writes over all of l, the room behind it, too.
func spoil[T any](l []T, mark T) {
	l = l[:cap(l)]
	for i := range l {
		l[i] = mark
	}
}

func TestNewMemory(t *testing.T) {
	mark := api.Label{Name: "mark", Value: "mark"}
	l := set("a", "1", "b", "2", "c", "3")
	given := roomy(l, mark)
	names := []string{"b", "c"}
	givenNames := roomy(names, "mark")
	for name, call := range map[string]func() []api.Label{
		"With":      func() []api.Label { return lset.With(given, "b", "x") },
		"With new":  func() []api.Label { return lset.With(given, "bb", "x") },
		"With last": func() []api.Label { return lset.With(given, "z", "x") },
		"With none": func() []api.Label { return lset.With(given, "z", "") },
		"With less": func() []api.Label { return lset.With(given, "a", "") },
		"Keep":      func() []api.Label { return lset.Keep(given, givenNames...) },
		"Keep all":  func() []api.Label { return lset.Keep(given, "a", "b", "c") },
		"Drop":      func() []api.Label { return lset.Drop(given, givenNames...) },
		"Drop none": func() []api.Label { return lset.Drop(given) },
	} {
		spoil(call(), api.Label{Name: "spoiled"})
		if spoiled(given, l, mark) || spoiled(givenNames, names, "mark") {
			t.Fatal(name, "shares memory")
		}
	}
	lset.Right(given)
	lset.Print(given)
	lset.Compare(given, given)
	lset.Get(given, "c")
	if spoiled(given, l, mark) {
		t.Error("the labels were changed")
	}
	a, _ := lset.Parse(`{a="x"}`)
	a[0].Value = "spoiled"
	if b, _ := lset.Parse(`{a="x"}`); b[0].Value != "x" {
		t.Error("Parse keeps what it answers")
	}
}
