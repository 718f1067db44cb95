package unit_test

import (
	"fmt"
	"math"
	"math/rand"
	"slices"
	"strconv"
	"strings"
	"testing"

	"klaxon/api"
	"klaxon/expr"
	"klaxon/live"
	"klaxon/lset"
	"klaxon/rule"
	"klaxon/store"
	"klaxon/unit"
)

func set(t *testing.T, s string) []api.Label {
	t.Helper()
	l, ok := lset.Parse(s)
	if !ok {
		t.Fatal("not a set:", s)
	}
	return l
}

func parsed(t *testing.T, s string) api.Unit {
	t.Helper()
	u, at, err := unit.Parse(s)
	if err != api.OK || at != 0 {
		t.Fatalf("not a test: %q, %d, %d", s, at, err)
	}
	return u
}

func told(x any) string { return fmt.Sprintf("%+v", x) }

// norm is u with empty lists where there are none, to be told.
func norm(u api.Unit) string {
	text := strconv.Itoa(u.Step)
	for _, f := range u.Feeds {
		text += fmt.Sprint("|", lset.Print(f.Set), f.Vals)
	}
	for _, r := range u.Rules {
		text += "|" + r.Name + rule.Print(r)
	}
	for _, c := range u.Checks {
		text += fmt.Sprint("|", c.Tick, c.Name)
		for _, l := range c.Sets {
			text += lset.Print(l)
		}
	}
	return text
}

const run = `step 5
series {name="m"} 5 + 0 by 3
alert high for 10 keep 0 if ({name="m"}[10] > 4)
at 2 high {}
at 0 high {}
`

// good is a right test.
func good(t *testing.T) api.Unit { return parsed(t, run) }

func TestRun(t *testing.T) {
	for _, batch := range []bool{false, true} {
		if got := unit.Run(good(t), batch); !slices.Equal(got, []string{"missing 0 high {}"}) {
			t.Error(batch, got)
		}
	}
	if got := unit.Print(good(t)); got != strings.Replace(run, "5 + 0 by 3", "5 5 5 5", 1) {
		t.Error(got)
	}
}

func TestRight(t *testing.T) {
	long := func(n int) []api.Value { return make([]api.Value, n) }
	feeds := func(n int) []api.Feed {
		var l []api.Feed
		for i := range n {
			l = append(l, api.Feed{Set: set(t, `{a="`+strconv.Itoa(i)+`"}`)})
		}
		return l
	}
	rules := func(n int) []api.Rule {
		var l []api.Rule
		for i := range n {
			r := good(t).Rules[0]
			r.Name = "r" + strconv.Itoa(i)
			l = append(l, r)
		}
		return append(l, good(t).Rules[0])
	}
	sets := func(n int) [][]api.Label {
		var l [][]api.Label
		for _, f := range feeds(n) {
			l = append(l, f.Set)
		}
		return l
	}
	for i, spoil := range []func(u *api.Unit){
		func(u *api.Unit) {}, func(u *api.Unit) { u.Step = 1 }, func(u *api.Unit) { u.Step = api.MaxSpan }, func(u *api.Unit) { *u = api.Unit{Step: 1} }, func(u *api.Unit) { u.Feeds = nil }, func(u *api.Unit) { u.Checks = nil },
		func(u *api.Unit) { u.Feeds = feeds(32) }, func(u *api.Unit) { u.Feeds[0].Vals = long(200) }, func(u *api.Unit) { u.Feeds[0].Vals = nil }, func(u *api.Unit) { u.Feeds[0].Set = nil }, func(u *api.Unit) { u.Feeds[0].Vals[0] = api.Value{Gap: true, N: 7} },
		func(u *api.Unit) { u.Rules = rules(7) }, func(u *api.Unit) { u.Checks = slices.Repeat(u.Checks, 100) }, func(u *api.Unit) { u.Checks[0].Tick = 199 }, func(u *api.Unit) { u.Checks[0].Sets = sets(32) }, func(u *api.Unit) { u.Checks[0].Sets = nil },
	} {
		u := good(t)
		spoil(&u)
		if !unit.Right(u) || unit.Print(u) == "" {
			t.Error("is right", i)
		}
		if _, ok := unit.Fill(u); !ok {
			t.Error("can fill", i)
		}
	}
	for i, spoil := range []func(u *api.Unit){
		func(u *api.Unit) { *u = api.Unit{} }, func(u *api.Unit) { u.Step = 0 }, func(u *api.Unit) { u.Step = -1 }, func(u *api.Unit) { u.Step = api.MaxSpan + 1 }, func(u *api.Unit) { u.Step = math.MaxInt },
		func(u *api.Unit) { u.Feeds = feeds(33) }, func(u *api.Unit) { u.Feeds[0].Vals = long(201) }, func(u *api.Unit) { u.Feeds = append(u.Feeds, u.Feeds[0]) }, func(u *api.Unit) { u.Feeds[0].Set = []api.Label{{Name: "A", Value: "x"}} }, func(u *api.Unit) { u.Feeds = append(feeds(3), feeds(1)...) },
		func(u *api.Unit) { u.Rules = rules(8) }, func(u *api.Unit) { u.Rules = append(u.Rules, u.Rules[0]) }, func(u *api.Unit) { u.Rules[0].For = -1 }, func(u *api.Unit) { u.Rules[0].Expr = api.Expr{Kind: api.XNum} }, func(u *api.Unit) { u.Rules = nil }, func(u *api.Unit) { u.Rules[0].Name = "low" },
		func(u *api.Unit) { u.Checks = slices.Repeat(u.Checks, 101) }, func(u *api.Unit) { u.Checks[1].Tick = 200 }, func(u *api.Unit) { u.Checks[1].Tick = -1 }, func(u *api.Unit) { u.Checks[1].Name = "" }, func(u *api.Unit) { u.Checks[1].Name = "low" },
		func(u *api.Unit) { u.Checks[1].Sets = sets(33) }, func(u *api.Unit) { u.Checks[1].Sets = append(sets(3), nil, nil) }, func(u *api.Unit) { u.Checks[1].Sets = append(sets(2), sets(1)...) }, func(u *api.Unit) { u.Checks[1].Sets = [][]api.Label{set(t, `{a="x",name="m"}`)} }, func(u *api.Unit) { u.Checks[1].Sets = [][]api.Label{{{Name: "a"}}} },
	} {
		u := good(t)
		spoil(&u)
		if unit.Right(u) || unit.Print(u) != "" {
			t.Error("isn't right", i)
		}
		if s, ok := unit.Fill(u); ok || s != nil {
			t.Error("can't fill", i)
		}
		for _, batch := range []bool{false, true} {
			if got := unit.Run(u, batch); !slices.Equal(got, []string{"broken"}) {
				t.Error("is broken", i, got)
			}
		}
	}
}

func TestParse(t *testing.T) {
	r := `alert a for 0 keep 0 if {}[1]`
	for _, c := range []struct{ s, want string }{
		{"step 5", "5"},
		{"\n  \n step 05 \n\n", "5"},
		{"step 5\nseries {}", "5|{}[]"},
		{"step 5\nseries {} 1 -2 3", "5|{}[{false 1} {false -2} {false 3}]"},
		{"step 5\nseries{a=\"x\"}1-2", "5|{a=\"x\"}[{false 1} {false -2}]"},
		{"step 5\nseries { a = \"x\" , b = \"\\\"\" } 1", "5|{a=\"x\",b=\"\\\"\"}[{false 1}]"},
		{"step 5\nseries {} 1 + 2 by 3", "5|{}[{false 1} {false 3} {false 5} {false 7}]"},
		{"step 5\nseries {} 1 + -2 by 2 7", "5|{}[{false 1} {false -1} {false -3} {false 7}]"},
		{"step 5\nseries {} 1 + 2 by 0 gap", "5|{}[{false 1} {true 0}]"},
		{"step 5\nseries {} gap 1 gap by 3 gap by 1 2", "5|{}[{true 0} {false 1} {true 0} {true 0} {true 0} {true 0} {false 2}]"},
		{"step 5\nseries {} 9223372036854775806 + 1 by 1", "5|{}[{false 9223372036854775806} {false 9223372036854775807}]"},
		{"step 5\nseries {} 9223372036854775807 + 1 by 0", "5|{}[{false 9223372036854775807}]"},
		{"step 5\nat 3 a {} {a=\"x\"}\n" + r + "\nseries {} 1\nat 0 a", "5|{}[{false 1}]|a" + r + "|3a{}{a=\"x\"}|0a"},
		{"step 5\n alert  a for 00 keep 0 if {}[1]", "5|a" + r},
		{"step 5\nat 0 a{b=\"1\"}{}\n" + r, "5|a" + r + "|0a{b=\"1\"}{}"},
		{"step 5\nseries {} gap by 200", "5|{}[" + strings.TrimSpace(strings.Repeat("{true 0} ", 200)) + "]"},
		{"step 5\nseries {} 0 + 0 by 199", "5|{}[" + strings.TrimSpace(strings.Repeat("{false 0} ", 200)) + "]"},
	} {
		got, at, err := unit.Parse(c.s)
		if err != api.OK || at != 0 || norm(got) != c.want {
			t.Errorf("Parse(%q) = %s, %d, %d; want %s", c.s, norm(got), at, err, c.want)
		}
	}
}

func TestParseNone(t *testing.T) {
	r := "alert a for 0 keep 0 if {}[1]\n"
	head := "step 5\n"
	deep := "alert x for 0 keep 0 if ((((((((1"
	for _, c := range []struct {
		s        string
		from, to int // where the byte may be
		err      api.Errno
	}{
		{"", 0, 0, api.ErrForm}, {" \n ", 0, 3, api.ErrForm}, {"step", 0, 4, api.ErrForm}, {"step a", 0, 6, api.ErrForm}, {"step 5 5", 0, 8, api.ErrForm}, {"steps 5", 0, 7, api.ErrForm}, {`"step" 5`, 0, 8, api.ErrForm}, {"5", 0, 1, api.ErrForm},
		{r + head, 0, len(r), api.ErrForm}, {"series {} 1\nstep 5", 0, 12, api.ErrForm}, {deep + "\n" + head, 0, len(deep), api.ErrForm}, {"step 5 series {} 1", 0, 18, api.ErrForm},
		{head + head, 7, 13, api.ErrForm}, {head + "foo", 7, 10, api.ErrForm}, {head + "5", 7, 8, api.ErrForm}, {head + "{}", 7, 9, api.ErrForm}, {head + "$", 7, 7, api.ErrForm}, {head + "\t", 7, 7, api.ErrForm}, {"$\n" + head, 0, 0, api.ErrForm},
		{head + "series", 7, 13, api.ErrForm}, {head + "series 5", 7, 15, api.ErrForm}, {head + "series {", 7, 15, api.ErrForm}, {head + "series {a}", 7, 17, api.ErrForm}, {head + "series {a=}", 7, 18, api.ErrForm}, {head + `series {a="x"`, 7, 20, api.ErrForm}, {head + `series {a="x",} 1`, 7, 24, api.ErrForm}, {head + `series {,} 1`, 7, 19, api.ErrForm}, {head + `series {a!="x"} 1`, 7, 24, api.ErrForm}, {head + `series {a="x" b="y"} 1`, 7, 29, api.ErrForm}, {head + `series } 1`, 7, 17, api.ErrForm}, {head + `series {"a"="x"} 1`, 7, 25, api.ErrForm},
		{head + `series {b="1",a="2"} 1`, 7, 29, api.ErrForm}, {head + `series {a=""} 1`, 7, 22, api.ErrForm}, {head + `series {a="1",a="1"} 1`, 7, 29, api.ErrForm}, {head + `series {a="1",b="1",c="1",d="1",e="1",f="1",g="1"} 1`, 7, 59, api.ErrForm},
		{head + "series {} a", 7, 18, api.ErrForm}, {head + "series {} 5 +", 7, 20, api.ErrForm}, {head + "series {} 5 + 3", 7, 22, api.ErrForm}, {head + "series {} 5 + 3 by", 7, 25, api.ErrForm}, {head + "series {} 5 + 3 by a", 7, 27, api.ErrForm}, {head + "series {} 5 + by 3", 7, 25, api.ErrForm}, {head + "series {} 5 + 3 3", 7, 24, api.ErrForm}, {head + `series {a "x"} 1`, 7, 23, api.ErrForm}, {head + `series {a : "x"} 1`, 7, 25, api.ErrForm}, {head + `series {"x"} 1`, 7, 21, api.ErrForm}, {head + `series {="x"} 1`, 7, 22, api.ErrForm}, {head + "series {} 5 by 3", 7, 23, api.ErrForm}, {head + "series {} 5 + 3 by -1", 7, 28, api.ErrForm}, {head + "series {} 5 + 3 by 201", 7, 29, api.ErrForm}, {head + "series {} + 3 by 2", 7, 25, api.ErrForm}, {head + "series {} 5 - 3 by 2", 7, 27, api.ErrForm}, {head + "series {} 5 -3 by 2", 7, 26, api.ErrForm}, {head + "series {} 5 + gap by 2", 7, 29, api.ErrForm}, {head + `series {} 5 + 3 "by" 2`, 7, 29, api.ErrForm},
		{head + "series {} gap by", 7, 23, api.ErrForm}, {head + "series {} gap by 0", 7, 25, api.ErrForm}, {head + "series {} gap by 201", 7, 27, api.ErrForm}, {head + "series {} gap by gap", 7, 27, api.ErrForm}, {head + "series {} gap by -1", 7, 26, api.ErrForm}, {head + "series {} {}", 7, 19, api.ErrForm}, {head + "series {} 1, 2", 7, 21, api.ErrForm}, {head + `series {} "gap"`, 7, 22, api.ErrForm}, {head + "series {} gap + 1 by 2", 7, 29, api.ErrForm},
		{head + "series {} 9223372036854775807 + 1 by 1", 7, 45, api.ErrOver}, {head + "series {} 1 + 9223372036854775807 by 1\n$", 7, 45, api.ErrOver}, {head + "series {} -9223372036854775808 + -1 by 5", 7, 47, api.ErrOver}, {head + "series {} 0 + 9223372036854775807 by 2", 7, 45, api.ErrOver}, {head + "series {} 0 + 1000000000000000000 by 200", 7, 47, api.ErrOver}, {head + "series {} 9223372036854775808", 17, 17, api.ErrForm},
		{head + "at", 7, 9, api.ErrForm}, {head + "at a", 7, 11, api.ErrForm}, {head + "at 5", 7, 11, api.ErrForm}, {head + "at 5 5", 7, 13, api.ErrForm}, {head + `at 5 "a"`, 7, 15, api.ErrForm}, {head + r + "at 5 a b", 37, 45, api.ErrForm}, {head + r + "at 5 a {", 37, 45, api.ErrForm}, {head + r + `at 5 a {a=""}`, 37, 50, api.ErrForm}, {head + r + `at 5 a {b="1",a="2"}`, 37, 57, api.ErrForm}, {head + r + `at 5 a {},{}`, 37, 49, api.ErrForm}, {head + r + `at 5 a 5`, 37, 45, api.ErrForm},
		{head + "alert", 7, 12, api.ErrForm}, {head + "alert a for 0 keep 0 if 5", 7, 32, api.ErrForm}, {head + "alert a for -1 keep 0 if {}[1]", 7, 37, api.ErrForm}, {head + r + "\n " + deep, 39, 71, api.ErrDeep}, {head + deep + "\n$", 7, 40, api.ErrDeep}, {head + "$\n" + deep, 7, 7, api.ErrForm}, {head + "series {} 9223372036854775807 + 1 by 1\n" + deep, 7, 45, api.ErrOver},
		{"step 0", 0, 0, api.ErrRule}, {"step -5", 0, 0, api.ErrRule}, {"step 1048577", 0, 0, api.ErrRule}, {head + "series {} 1\nseries {} 1", 0, 0, api.ErrRule}, {head + r + r, 0, 0, api.ErrRule}, {head + "at 5 a", 0, 0, api.ErrRule}, {head + r + "at 200 a", 0, 0, api.ErrRule}, {head + r + "at -1 a", 0, 0, api.ErrRule}, {head + r + "at 1 b", 0, 0, api.ErrRule}, {head + r + `at 1 a {name="m"}`, 0, 0, api.ErrRule}, {head + r + `at 1 a {} {}`, 0, 0, api.ErrRule}, {head + "series {} 5 + 0 by 200", 0, 0, api.ErrRule}, {head + "series {} gap by 200 1", 0, 0, api.ErrRule}, {head + "series {} gap by 200 0 + 1 by 100\nseries {a=\"x\"} 1", 0, 0, api.ErrRule},
		{head + strings.Repeat(strings.Replace(r, "a", "a", 1), 9), 0, 0, api.ErrRule}, {head + r + strings.Repeat("at 1 a\n", 201), 0, 0, api.ErrRule}, {head + strings.Repeat("series {}\n", 50), 0, 0, api.ErrRule},
		{"step 0\n$", 7, 7, api.ErrForm}, {head + "series {} gap by 200 1 9223372036854775807 + 1 by 1", 7, 58, api.ErrOver},
		{head + "series {} " + strings.Repeat("1 ", 400), 7, 820, api.ErrForm},
		// A line ends at each byte 10, in quotes too.
		{head + "series {a=\"\n\"} 1", 17, 17, api.ErrForm},
	} {
		got, at, err := unit.Parse(c.s)
		if err != c.err || at < c.from || at > c.to || at > len(c.s) || told(got) != told(api.Unit{}) {
			t.Errorf("Parse(%q) = %s, %d, %d; want %d to %d, %d", c.s, told(got), at, err, c.from, c.to, c.err)
		}
	}
	// As many as may be, and one more.
	many := head
	for i := range 32 {
		many += "series {a=\"" + strconv.Itoa(i) + "\"} 1\n"
	}
	for i := range 8 {
		many += strings.Replace(r, "alert a", "alert a"+strconv.Itoa(i), 1)
	}
	many += strings.Repeat("at 1 a3\n", 200)
	parsed(t, many)
	for _, more := range []string{"series {a=\"x\"}\n", r, "at 1 a3\n"} {
		if _, at, err := unit.Parse(many + more); err != api.ErrRule || at != 0 {
			t.Error("one more", more, at, err)
		}
	}
}

func TestPrint(t *testing.T) {
	u := api.Unit{
		Step:   7,
		Feeds:  []api.Feed{{Set: set(t, `{b="\"",name="m"}`), Vals: []api.Value{{N: -5}, {Gap: true, N: 3}, {N: math.MinInt}}}, {}},
		Rules:  []api.Rule{{Name: "b", Expr: api.Expr{Kind: api.XPick, N: 5}, Keep: 3}, {Name: "a", Expr: api.Expr{Kind: api.XPick, N: 6}}},
		Checks: []api.Check{{Tick: 9, Name: "b", Sets: [][]api.Label{set(t, `{b="1"}`), nil, set(t, `{a="x"}`)}}, {Name: "a"}, {Tick: 9, Name: "b"}},
	}
	want := "step 7\nseries {b=\"\\\"\",name=\"m\"} -5 gap -9223372036854775808\nseries {}\nalert b for 0 keep 3 if {}[5]\nalert a for 0 keep 0 if {}[6]\nat 9 b {b=\"1\"} {} {a=\"x\"}\nat 0 a\nat 9 b\n"
	if got := unit.Print(u); got != want {
		t.Errorf("%q", got)
	}
	u.Feeds[0].Vals[1].N = 0
	if got := parsed(t, want); norm(got) != norm(u) || unit.Print(got) != want {
		t.Error("Parse of Print", norm(got))
	}
}

func TestFill(t *testing.T) {
	u := parsed(t, "step 7\nseries {a=\"x\"} 1 gap 2 gap\nseries {} gap gap\nseries {b=\"1\"} gap by 5 9\nseries {c=\"1\"}")
	s, ok := unit.Fill(u)
	if !ok {
		t.Fatal("can fill")
	}
	text := ""
	for _, l := range s.Sets() {
		text += fmt.Sprint(lset.Print(l), s.Samples(l))
	}
	if text != `{a="x"}[{0 1} {14 2}]{b="1"}[{35 9}]` {
		t.Error(text)
	}
	u = parsed(t, "step 1048576\nseries {} 0 + 1 by 199")
	if s, ok := unit.Fill(u); !ok || len(s.Samples(nil)) != 200 || s.Samples(nil)[199].Time != 199*api.MaxSpan {
		t.Error("as many as may be")
	}
}

func TestReport(t *testing.T) {
	if got := unit.Report(); got != "" {
		t.Errorf("%q", got)
	}
	if got := unit.Report("a", "", "b c"); got != "a\n\nb c\n" {
		t.Errorf("%q", got)
	}
}

func TestLines(t *testing.T) {
	text := `step 5
series {a="x",name="m"} 5 + 0 by 3 1 + 0 by 3 5 5
series {a="y",name="m"} gap by 2 5 + 0 by 9
series {b="1",name="m"} 5 + 0 by 20
alert low for 0 keep 0 if ({name="m"}[5] < 4)
alert high for 5 keep 5 if ({name="m"}[5] > 4)
alert sum for 0 keep 0 if (sum by () (({name="m"}[5] * 1844674407370955161)) > 0)
`
	for _, c := range []struct {
		checks string
		want   []string
	}{
		{"", nil},
		{"at 1 high {a=\"x\"} {b=\"1\"}", nil},
		{"at 1 high {b=\"1\"} {a=\"x\"}", nil},
		{"at 1 high", []string{`unexpected 1 high {a="x"}`, `unexpected 1 high {b="1"}`}},
		{"at 1 high {}", []string{`unexpected 1 high {a="x"}`, `unexpected 1 high {b="1"}`, `missing 1 high {}`}},
		{"at 1 high {c=\"1\"} {a=\"y\"} {b=\"1\"} {a=\"a\"}", []string{`missing 1 high {a="a"}`, `unexpected 1 high {a="x"}`, `missing 1 high {a="y"}`, `missing 1 high {c="1"}`}},
		{"at 4 high {a=\"x\"} {a=\"y\"} {b=\"1\"}\nat 5 high {a=\"y\"} {b=\"1\"}", nil},
		{"at 5 high {a=\"x\"} {a=\"y\"} {b=\"1\"}\nat 4 high", []string{`missing 5 high {a="x"}`, `unexpected 4 high {a="x"}`, `unexpected 4 high {a="y"}`, `unexpected 4 high {b="1"}`}},
		{"at 4 low {a=\"x\"}\nat 3 low\nat 8 low {}", []string{`missing 8 low {}`}},
		{"at 3 low {} {a=\"x\"}\nat 3 high {a=\"x\"} {b=\"1\"} {a=\"y\"}", []string{`missing 3 low {a="x"}`, `missing 3 low {}`}},
		{"at 199 high\nat 199 low\nat 0 high", nil},
		{"at 0 high {b=\"1\"}\nat 0 high {b=\"1\"}", []string{`missing 0 high {b="1"}`, `missing 0 high {b="1"}`}},
		// The sum overflows from tick 0 on: no alert, nothing but what is expected too many.
		{"at 0 sum\nat 1 sum {}", []string{`missing 1 sum {}`}},
	} {
		u := parsed(t, text+c.checks)
		for _, batch := range []bool{false, true} {
			if got := unit.Run(u, batch); !slices.Equal(got, c.want) {
				t.Errorf("Run(%q, %v) = %q", c.checks, batch, got)
			}
		}
	}
	// A sample is at just the tick's time, from 0 on.
	first := parsed(t, "step 5\nseries {} 7 gap 7\nalert one for 0 keep 0 if {}[1]\nat 0 one {}\nat 1 one\nat 2 one {}\nat 3 one")
	for _, batch := range []bool{false, true} {
		if got := unit.Run(first, batch); len(got) != 0 {
			t.Error("at just its time", got)
		}
	}
	over := parsed(t, "step 5\nseries {a=\"x\"} 1 1 9223372036854775807 9223372036854775807 1 gap\nseries {a=\"y\"} 1 + 0 by 9\nalert sum for 0 keep 0 if (sum by (b) ({a=\"x\"}[5]) > (2 - 2))\nalert both for 0 keep 0 if (sum by () ({}[5]) == 2)\nat 3 both {}\nat 4 both {}\nat 5 both\nat 2 sum {}")
	for _, batch := range []bool{false, true} {
		if got := unit.Run(over, batch); len(got) != 0 {
			t.Error("where it errs all stays as it was", got)
		}
	}
}

// random makes a test that is right.
func random(t *testing.T, dice *rand.Rand) api.Unit {
	u := api.Unit{Step: 1 + dice.Intn(9)}
	for _, text := range []string{`{a="x",name="m"}`, `{a="y",name="m"}`, `{b="1",name="m"}`, `{name="m"}`, `{a="x",name="k"}`}[:dice.Intn(6)] {
		f := api.Feed{Set: set(t, text)}
		for range dice.Intn(20) {
			v := api.Value{N: dice.Intn(5) - 1}
			if dice.Intn(3) == 0 {
				v = api.Value{Gap: true}
			}
			f.Vals = append(f.Vals, v)
		}
		u.Feeds = append(u.Feeds, f)
	}
	texts := []string{`({name="m"}[20] > 1)`, `({}[12] > 1)`, `(6 / {name="m"}[20])`, `(({name="m"}[9] + {name="k"}[20]) > 3)`, `(sum by (a) ({}[15]) > 3)`, `({name="m"}[15] unless {name="k"}[8])`}
	for i := range dice.Intn(4) {
		x, _, err := expr.Parse(texts[dice.Intn(len(texts))])
		if err != api.OK {
			t.Fatal("not an expression")
		}
		u.Rules = append(u.Rules, api.Rule{Name: "r" + strconv.Itoa(i), Expr: x, For: dice.Intn(30), Keep: dice.Intn(30)})
	}
	pool := []string{`{}`, `{a="x"}`, `{a="y"}`, `{b="1"}`, `{c="\\"}`}
	for range dice.Intn(6) * len(u.Rules) {
		c := api.Check{Tick: dice.Intn(30), Name: u.Rules[dice.Intn(len(u.Rules))].Name}
		for _, i := range dice.Perm(len(pool))[:dice.Intn(4)] {
			c.Sets = append(c.Sets, set(t, pool[i]))
		}
		u.Checks = append(u.Checks, c)
	}
	return u
}

// want is what Run should say, by live's states.
func want(t *testing.T, u api.Unit) []string {
	s := store.New()
	for _, f := range u.Feeds {
		for i, v := range f.Vals {
			if !v.Gap {
				s.Put(f.Set, api.Sample{Time: i * u.Step, Value: v.N})
			}
		}
	}
	var lines []string
	for _, c := range u.Checks {
		for _, r := range u.Rules {
			if r.Name != c.Name {
				continue
			}
			l := live.New(r, api.Grid{Step: u.Step, N: api.MaxTicks})
			for range c.Tick + 1 {
				l.Tick(s)
			}
			texts := map[string]int{}
			for _, x := range c.Sets {
				texts[lset.Print(x)]++
			}
			for _, p := range l.Active() {
				if p.Value == api.Firing {
					texts[lset.Print(p.Set)] += 2
				}
			}
			var own []string
			for text, n := range texts {
				if n != 3 {
					own = append(own, text+" "+[]string{"", "missing", "unexpected"}[n])
				}
			}
			slices.Sort(own)
			for _, x := range own {
				at := strings.LastIndex(x, " ")
				lines = append(lines, fmt.Sprint(x[at+1:], " ", c.Tick, " ", c.Name, " ", x[:at]))
			}
		}
	}
	return lines
}

func TestBothEngines(t *testing.T) {
	dice := rand.New(rand.NewSource(24))
	lines := 0
	for range 150 {
		u := random(t, dice)
		text := unit.Print(u)
		back := parsed(t, text)
		if norm(back) != norm(u) || unit.Print(back) != text {
			t.Fatalf("Parse of Print: %q", text)
		}
		should := want(t, u)
		lines += len(should)
		for _, batch := range []bool{false, true} {
			if got := unit.Run(u, batch); !slices.Equal(got, should) {
				t.Fatalf("Run(%q, %v) = %q, want %q", text, batch, got, should)
			}
		}
		if unit.Print(u) != text {
			t.Fatal("the test was changed")
		}
	}
	if lines < 100 {
		t.Error("too few lines", lines)
	}
}

// Of any text: an error at a byte, or what prints to what reads to it.
func TestAnyText(t *testing.T) {
	dice := rand.New(rand.NewSource(241))
	pool := []string{"step 5\n", "\nstep", "5", "\nseries", "{}", `{a="x"}`, "{", "}", "gap", "by", "+", "3", "-1", "\nat", "a", "\nalert a for 0 keep 0 if {}[1]\n", "\n", "$", "\nseries {} 1\n", "\nat 1 a\n"}
	right := 0
	for range 40000 {
		words := []string{pool[0]}
		for range dice.Intn(9) {
			words = append(words, pool[dice.Intn(len(pool))])
		}
		if dice.Intn(9) == 0 {
			words = words[1:]
		}
		s := strings.Join(words, " ")
		u, at, err := unit.Parse(s)
		switch {
		case err != api.OK && (at < 0 || at > len(s) || told(u) != told(api.Unit{}) || err == api.ErrRule && at != 0):
			t.Fatalf("Parse(%q) = %d, %d", s, at, err)
		case err != api.OK:
			continue
		}
		right++
		again, _, err := unit.Parse(unit.Print(u))
		if at != 0 || !unit.Right(u) || err != api.OK || norm(again) != norm(u) {
			t.Fatalf("Parse(%q) = %s, %d", s, norm(u), at)
		}
	}
	if right < 500 {
		t.Error("too few are right", right)
	}
}

func TestMemory(t *testing.T) {
	u := good(t)
	lines := []string{"a", "b", "c"}
	unit.Report(lines[:2]...)
	s, _ := unit.Fill(u)
	s.Cut(99)
	u.Feeds[0].Set[0].Value = "spoiled"
	if lines[2] != "c" || norm(good(t)) != norm(parsed(t, unit.Print(good(t)))) {
		t.Error("what was handed in was changed, or is kept")
	}
	if s, _ := unit.Fill(u); len(s.Sets()) != 1 || lset.Get(s.Sets()[0], "name") != "spoiled" {
		t.Error("an answer is kept")
	}
}
