package rule_test

import (
	"fmt"
	"math"
	"math/rand"
	"strconv"
	"strings"
	"testing"

	"klaxon/api"
	"klaxon/expr"
	"klaxon/lex"
	"klaxon/rule"
)

func parsed(t *testing.T, s string) api.Expr {
	t.Helper()
	x, at, err := expr.Parse(s)
	if err != api.OK {
		t.Fatal("not an expression:", s, at, err)
	}
	return x
}

// high is a right rule, of that name.
func high(t *testing.T, name string) api.Rule {
	return api.Rule{Name: name, Expr: parsed(t, `({name="m"}[30] > 5)`), For: 60}
}

func told(x any) string { return fmt.Sprintf("%+v", x) }

var (
	zero = told(api.Rule{})
	long = strings.Repeat("a", api.MaxText)
)

func TestRight(t *testing.T) {
	for i, spoil := range []func(r *api.Rule){
		func(r *api.Rule) {}, func(r *api.Rule) { r.For, r.Keep = 0, 0 }, func(r *api.Rule) { r.For, r.Keep = api.MaxSpan, api.MaxSpan }, func(r *api.Rule) { r.Name = long }, func(r *api.Rule) { r.Name = "for" }, func(r *api.Rule) { r.Expr = r.Expr.Kids[0] },
	} {
		r := high(t, "high")
		spoil(&r)
		if !rule.Right(r) {
			t.Error("is right", i)
		}
	}
	for i, spoil := range []func(r *api.Rule){
		func(r *api.Rule) { r.Name = "" }, func(r *api.Rule) { r.Name = "High" }, func(r *api.Rule) { r.Name = long + "a" }, func(r *api.Rule) { r.For = -1 }, func(r *api.Rule) { r.For = api.MaxSpan + 1 }, func(r *api.Rule) { r.For = math.MinInt },
		func(r *api.Rule) { r.Keep = -1 }, func(r *api.Rule) { r.Keep = api.MaxSpan + 1 }, func(r *api.Rule) { r.Keep = math.MaxInt }, func(r *api.Rule) { r.Expr = api.Expr{} }, func(r *api.Rule) { r.Expr = api.Expr{Kind: api.XNum} }, func(r *api.Rule) { r.Expr.Kids[0].N = 0 },
	} {
		r := high(t, "high")
		spoil(&r)
		if rule.Right(r) || rule.Print(r) != "" || rule.File(r) != "" || rule.File(high(t, "a"), r) != "" {
			t.Error("isn't right", i)
		}
	}
}

func grid(start, step, n int) api.Grid { return api.Grid{Start: start, Step: step, N: n} }

func TestGrid(t *testing.T) {
	for _, g := range []api.Grid{grid(0, 1, 0), grid(api.MaxTime, api.MaxSpan, api.MaxTicks), grid(5, 5, 5)} {
		if !rule.Grid(g) {
			t.Error("is right", g)
		}
	}
	for _, g := range []api.Grid{{}, grid(-1, 1, 0), grid(api.MaxTime+1, 1, 0), grid(0, 0, 0), grid(0, -1, 0), grid(0, api.MaxSpan+1, 0), grid(0, 1, -1), grid(0, 1, api.MaxTicks+1), grid(math.MinInt, 1, 1), grid(0, math.MaxInt, 1), grid(0, 1, math.MaxInt)} {
		if rule.Grid(g) {
			t.Error("isn't right", g)
		}
	}
}

func TestSame(t *testing.T) {
	if !rule.Same(high(t, "high"), high(t, "high")) || !rule.Same(api.Rule{}, api.Rule{Expr: api.Expr{Kids: []api.Expr{}}}) {
		t.Error("are the same")
	}
	for i, spoil := range []func(r *api.Rule){
		func(r *api.Rule) { r.Name = "low" }, func(r *api.Rule) { r.For = 61 }, func(r *api.Rule) { r.Keep = 1 }, func(r *api.Rule) { r.Expr.Kind = api.XLt }, func(r *api.Rule) { r.Expr.Kids[1].N = 6 },
	} {
		r := high(t, "high")
		spoil(&r)
		if rule.Same(r, high(t, "high")) || rule.Same(high(t, "high"), r) {
			t.Error("aren't the same", i)
		}
	}
}

func TestPrint(t *testing.T) {
	r := high(t, "high")
	want := `alert high for 60 keep 0 if ({name="m"}[30] > 5)`
	if got := rule.Print(r); got != want {
		t.Error(got)
	}
	if got, at, err := rule.Parse(want); err != api.OK || at != 0 || !rule.Same(got, r) {
		t.Error(told(got), at, err)
	}
	r.Keep = api.MaxSpan
	if got := rule.Print(r); got != `alert high for 60 keep 1048576 if ({name="m"}[30] > 5)` {
		t.Error(got)
	}
}

func TestFile(t *testing.T) {
	a, b := high(t, "a"), high(t, "b")
	if got := rule.File(); got != "" {
		t.Error("of none", got)
	}
	if got := rule.File(b, a); got != rule.Print(b)+"\n"+rule.Print(a)+"\n" {
		t.Error(got)
	}
	if rule.File(a, b, a) != "" {
		t.Error("of two of one name")
	}
	var many []api.Rule
	for i := range api.MaxRules {
		many = append(many, high(t, "r"+strconv.Itoa(i)))
	}
	got, at, err := rule.Read(rule.File(many...))
	if strings.Count(rule.File(many...), "\n") != api.MaxRules || err != api.OK || at != 0 || told(got) != told(many) {
		t.Error("as many as may be", at, err)
	}
	if rule.File(append(many, a)...) != "" {
		t.Error("one too many")
	}
}

func TestParse(t *testing.T) {
	for s, want := range map[string]api.Rule{
		" alert\nhigh for 060 keep -0 if({name=\"m\"}[30]>5) ": high(t, "high"),
		`alert alert for 0 keep 7 if {}[1]`:                    {Name: "alert", Keep: 7, Expr: parsed(t, "{}[1]")},
		"alert if for 1048576 keep 0 if sum by () ({}[1])":     {Name: "if", For: api.MaxSpan, Expr: parsed(t, "sum by () ({}[1])")},
		"alert a for 0keep 0 if{a=\"\n\"}[1]":                  {Name: "a", Expr: parsed(t, "{a=\"\n\"}[1]")},
	} {
		if got, at, err := rule.Parse(s); err != api.OK || at != 0 || !rule.Same(got, want) {
			t.Errorf("Parse(%q) = %s, %d, %d", s, told(got), at, err)
		}
	}
	head := "alert x for 0 keep 0 if "
	deep := strings.Repeat("(", 8)
	for s, want := range map[string]api.Errno{
		"": api.ErrForm, "  ": api.ErrForm, "alert x": api.ErrForm, "alert": api.ErrForm, "alert x for": api.ErrForm, "alert x for 0": api.ErrForm, "alert x for 0 keep": api.ErrForm, "alert x for 0 keep 0": api.ErrForm, head: api.ErrForm,
		"x " + head + "{}[1]": api.ErrForm, "alarm x for 0 keep 0 if {}[1]": api.ErrForm, "alert 5 for 0 keep 0 if {}[1]": api.ErrForm, `alert "x" for 0 keep 0 if {}[1]`: api.ErrForm, `"alert" x for 0 keep 0 if {}[1]`: api.ErrForm,
		"alert x keep 0 for 0 if {}[1]": api.ErrForm, "alert x for a keep 0 if {}[1]": api.ErrForm, "alert x for 0 keep a if {}[1]": api.ErrForm, "alert x for 0 keep 0 {}[1]": api.ErrForm, "alert x for 0 keep 0 if if {}[1]": api.ErrForm, "alert x for 0 if {}[1]": api.ErrForm, "alert x for 0 0 keep 0 if {}[1]": api.ErrForm,
		"alert x for -1 keep 0 if {}[1]": api.ErrForm, "alert x for 1048577 keep 0 if {}[1]": api.ErrForm, "alert x for 0 keep -1 if {}[1]": api.ErrForm, "alert x for 0 keep 1048577 if {}[1]": api.ErrForm,
		head + "5": api.ErrForm, head + "(1 + 2)": api.ErrForm, head + "{}[0]": api.ErrForm, head + "{}[1] {}[1]": api.ErrForm, head + "({}[1] >": api.ErrForm, head + "$": api.ErrForm, head + "{}[1]\n" + head + "{}[1]": api.ErrForm,
		"alert " + long + "a for 0 keep 0 if {}[1]": api.ErrForm, "alert X for 0 keep 0 if {}[1]": api.ErrForm,
		head + deep + "1": api.ErrDeep, head + deep + "{": api.ErrDeep, head + deep: api.ErrForm, head + deep + ")": api.ErrForm, head + deep + "1 $": api.ErrForm,
		"alert x for 0 kept 0 if " + deep + "1": api.ErrForm,
		head + strings.Repeat("( ", 400):        api.ErrForm,
	} {
		if got, at, err := rule.Parse(s); err != want || at < 0 || at > len(s) || told(got) != zero {
			t.Errorf("Parse(%q) = %s, %d, %d", s, told(got), at, err)
		}
	}
}

// line is a rule's text.
func line(name string) string { return "alert " + name + " for 0 keep 0 if {}[1]" }

func TestRead(t *testing.T) {
	for _, c := range []struct {
		s    string
		want []string
	}{
		{"", nil}, {"\n", nil}, {"  \n\n ", nil},
		{line("a"), []string{"a"}},
		{line("a") + "\n", []string{"a"}},
		{"\n" + line("b") + "\n  \n\n " + line("a") + "  \n ", []string{"b", "a"}},
	} {
		got, at, err := rule.Read(c.s)
		var names []string
		for _, r := range got {
			names = append(names, r.Name)
			if !rule.Same(r, api.Rule{Name: r.Name, Expr: parsed(t, "{}[1]")}) {
				t.Error("another rule", told(r))
			}
		}
		if err != api.OK || at != 0 || told(names) != told(c.want) {
			t.Errorf("Read(%q) = %v, %d, %d", c.s, names, at, err)
		}
	}
}

func TestReadNone(t *testing.T) {
	eight := ""
	for i := range api.MaxRules {
		eight += line("r"+strconv.Itoa(i)) + "\n"
	}
	deep := "alert x for 0 keep 0 if ((((((((1"
	a := line("a") + "\n"
	for _, c := range []struct {
		s        string
		from, to int // where the byte may be
		err      api.Errno
	}{
		{"alert x", 0, 7, api.ErrForm},
		{a + "  \nalert x\n" + a, len(a) + 3, len(a) + 10, api.ErrForm},
		{a + "alert x $\n" + deep, len(a) + 8, len(a) + 8, api.ErrForm},
		{a + deep + "\nalert x $", len(a) + 32, len(a) + 32, api.ErrDeep},
		{a + line("b") + " $", len(a) + len(line("b")) + 1, len(a) + len(line("b")) + 1, api.ErrForm},
		{a + " " + a, len(a), len(a), api.ErrTwice},
		{a + "\n" + line("b") + "\n" + a + "$", len(a) + len(line("b")) + 2, len(a) + len(line("b")) + 2, api.ErrTwice},
		{a + "$\n" + a, len(a), len(a), api.ErrForm},
		{eight + line("a"), len(eight), len(eight), api.ErrFull},
		{eight + " \n  " + line("a") + "\n$", len(eight) + 2, len(eight) + 2, api.ErrFull},
		{eight + line("r3"), len(eight), len(eight), api.ErrTwice},
		{eight + "$", len(eight), len(eight), api.ErrForm},
		{eight + deep, len(eight) + 32, len(eight) + 32, api.ErrDeep},
		{"\t", 0, 0, api.ErrForm},
		{a + "\r\n", len(a), len(a), api.ErrForm},
		// A line ends at each byte 10, in quotes too.
		{"alert a for 0 keep 0 if {a=\"\n\"}[1]", 27, 27, api.ErrForm},
	} {
		got, at, err := rule.Read(c.s)
		if err != c.err || at < c.from || at > c.to || len(got) != 0 {
			t.Errorf("Read(%q) = %v, %d, %d; want %d to %d, %d", c.s, told(got), at, err, c.from, c.to, c.err)
		}
	}
	if got, at, err := rule.Read(eight); err != api.OK || at != 0 || len(got) != api.MaxRules {
		t.Error("as many as may be", at, err)
	}
}

func TestPrintedIsParsed(t *testing.T) {
	dice := rand.New(rand.NewSource(11))
	texts := []string{`{}[1]`, `({a="\"",b!^"\\"}[5] > -5)`, `sum by (a,b) (({a^=""}[5] / 2))`, `(({}[1] and {}[2]) unless ({}[3] == {}[4]))`}
	for range 300 {
		r := api.Rule{Name: "a" + strconv.Itoa(dice.Intn(9)), For: dice.Intn(api.MaxSpan + 1), Keep: dice.Intn(api.MaxSpan + 1), Expr: parsed(t, texts[dice.Intn(len(texts))])}
		s := rule.Print(r)
		ts, _, _ := lex.Tokens(s)
		for _, text := range []string{s, lex.Join(ts...)} {
			if got, at, err := rule.Parse(text); err != api.OK || at != 0 || !rule.Same(got, r) {
				t.Fatalf("Parse(%q) = %s, %d, %d", text, told(got), at, err)
			}
		}
		// Without one of its tokens, or with another one in its place, it is none, or another rule's text.
		i := dice.Intn(len(ts))
		for _, other := range []string{lex.Join(append(ts[:i:i], ts[i+1:]...)...), lex.Join(append(append(ts[:i:i], ts[dice.Intn(len(ts))]), ts[i+1:]...)...)} {
			got, at, err := rule.Parse(other)
			back, _, _ := lex.Tokens(rule.Print(got))
			if err == api.OK && lex.Join(back...) != other || at < 0 || at > len(other) || err != api.OK && told(got) != zero {
				t.Fatalf("Parse(%q) = %s, %d, %d", other, told(got), at, err)
			}
		}
	}
}

func TestAnyText(t *testing.T) {
	dice := rand.New(rand.NewSource(111))
	pool := []string{"alert", "a", "for", "keep", "if", "0", "5", "{", "}", "[", "]", "(", ")", "\n", "\n", "$", "alert a for 0 keep 0 if {}[1]", "alert b for 0 keep 0 if {}[1]\n"}
	for range 20000 {
		var words []string
		for range dice.Intn(10) {
			words = append(words, pool[dice.Intn(len(pool))])
		}
		s := strings.Join(words, " ")
		got, at, err := rule.Read(s)
		switch {
		case err == api.OK && (at != 0 || len(got) > 0 && rule.File(got...) == ""):
			t.Fatalf("Read(%q) = %s, %d", s, told(got), at)
		case err != api.OK && (at < 0 || at > len(s) || len(got) > 0):
			t.Fatalf("Read(%q) = %s, %d, %d", s, told(got), at, err)
		}
	}
}
