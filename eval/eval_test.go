package eval_test

import (
	"math"
	"math/rand"
	"slices"
	"strconv"
	"strings"
	"testing"

	"klaxon/api"
	"klaxon/eval"
	"klaxon/expr"
	"klaxon/lset"
	"klaxon/store"
)

func parsed(t *testing.T, s string) api.Expr {
	t.Helper()
	x, at, err := expr.Parse(s)
	if err != api.OK {
		t.Fatal("not an expression:", s, at, err)
	}
	return x
}

func set(t *testing.T, s string) []api.Label {
	t.Helper()
	l, ok := lset.Parse(s)
	if !ok {
		t.Fatal("not a set:", s)
	}
	return l
}

func put(t *testing.T, s *store.Store, text string, at, value int) {
	t.Helper()
	if err := s.Put(set(t, text), api.Sample{Time: at, Value: value}); err != api.OK {
		t.Fatal("Put", text, at, err)
	}
}

func told(l []api.Point) string {
	var words []string
	for _, p := range l {
		words = append(words, lset.Print(p.Set)+":"+strconv.Itoa(p.Value))
	}
	return strings.Join(words, " ")
}

func TestNumber(t *testing.T) {
	for _, c := range []struct {
		s    string
		want int
		err  api.Errno
	}{
		{"5", 5, api.OK}, {"(1 + 2)", 3, api.OK}, {"(1 - 2)", -1, api.OK}, {"(3 * -2)", -6, api.OK}, {"(-7 / 2)", -3, api.OK}, {"(-7 % 2)", -1, api.OK},
		{"((1 + 2) * (10 - 4))", 18, api.OK}, {"(1 / 0)", 0, api.ErrZero}, {"(9223372036854775807 + 1)", 0, api.ErrOver},
		{"((1 / 0) + (9223372036854775807 + 1))", 0, api.ErrZero}, {"((9223372036854775807 + 1) + (1 / 0))", 0, api.ErrOver},
		{"((9223372036854775807 + 1) / 0)", 0, api.ErrOver}, {"(1 / (1 % 0))", 0, api.ErrZero}, {"(5 * (9223372036854775807 * 2))", 0, api.ErrOver},
		{"(((((((1 + 1) + 1) + 1) + 1) + 1) + 1) + 1)", 8, api.OK},
		{"{}[5]", 0, api.ErrRule}, {"({}[5] + 1)", 0, api.ErrRule}, {"({}[5] > 1)", 0, api.ErrRule},
	} {
		if got, err := eval.Number(parsed(t, c.s)); got != c.want || err != c.err {
			t.Error("Number", c.s, got, err)
		}
	}
	nine := api.Expr{Kind: api.XNum, N: 1}
	for range 8 {
		nine = api.Expr{Kind: api.XAdd, Kids: []api.Expr{nine, {Kind: api.XNum}}}
	}
	for _, x := range []api.Expr{{}, nine, {Kind: api.XNum, Names: []string{"a"}}, {Kind: api.XAdd}, {Kind: api.XGt, Kids: []api.Expr{{Kind: api.XNum}, {Kind: api.XNum}}}} {
		if got, err := eval.Number(x); got != 0 || err != api.ErrRule {
			t.Error("Number of none", x.Kind, got, err)
		}
	}
}

func TestRuns(t *testing.T) {
	s := store.New()
	put(t, s, `{name="m"}`, 10, 5)
	for _, c := range []struct {
		x    string
		t    int
		want string
		err  api.Errno
	}{
		{`({name="m"}[10] * 2)`, 12, `{}:10`, api.OK},
		{`({name="m"}[10] * 2)`, 25, ``, api.OK},
		{`({name="m"}[10] / 0)`, 12, ``, api.ErrZero},
		{`({name="m"}[10] / 0)`, 25, ``, api.OK},
		{`{name="m"}[10]`, 19, `{name="m"}:5`, api.OK},
		{`{name="m"}[10]`, 20, ``, api.OK},
		{`{name="m"}[10]`, 9, ``, api.OK},
		{`{name="k"}[10]`, 12, ``, api.OK},
	} {
		if got, err := eval.At(parsed(t, c.x), s, c.t); told(got) != c.want || err != c.err {
			t.Error("At", c.x, c.t, told(got), err)
		}
	}
}

// world is a store of some series at time 10.
func world(t *testing.T) *store.Store {
	s := store.New()
	put(t, s, `{a="x",name="m"}`, 10, 5)
	put(t, s, `{a="y",name="m"}`, 10, 7)
	put(t, s, `{a="x",name="k"}`, 10, 2)
	put(t, s, `{a="z",name="k"}`, 10, 0)
	put(t, s, `{name="big"}`, 10, math.MaxInt)
	return s
}

func TestEachKind(t *testing.T) {
	s := world(t)
	m, k, big := `{name="m"}[5]`, `{name="k"}[5]`, `{name="big"}[5]`
	for _, c := range []struct {
		x    string
		want string
		err  api.Errno
	}{
		{m, `{a="x",name="m"}:5 {a="y",name="m"}:7`, api.OK},
		{`{}[5]`, `{a="x",name="k"}:2 {a="x",name="m"}:5 {a="y",name="m"}:7 {a="z",name="k"}:0 {name="big"}:9223372036854775807`, api.OK},
		{`{a^="",a!="x",name!^"b"}[5]`, `{a="y",name="m"}:7 {a="z",name="k"}:0`, api.OK},
		{"(" + m + " + " + k + ")", `{a="x"}:7`, api.OK},
		{"(" + m + " - " + k + ")", `{a="x"}:3`, api.OK},
		{"(" + m + " * " + k + ")", `{a="x"}:10`, api.OK},
		{"(" + m + " / " + k + ")", `{a="x"}:2`, api.OK},
		{"(" + m + " % " + k + ")", `{a="x"}:1`, api.OK},
		{"(" + k + " / " + k + ")", ``, api.ErrZero},
		{"(" + m + " - 1)", `{a="x"}:4 {a="y"}:6`, api.OK},
		{"(1 - " + m + ")", `{a="x"}:-4 {a="y"}:-6`, api.OK},
		{"((2 * 5) / " + m + ")", `{a="x"}:2 {a="y"}:1`, api.OK},
		{"(" + m + " / (2 * 5))", `{a="x"}:0 {a="y"}:0`, api.OK},
		{"(1 / " + k + ")", ``, api.ErrZero},
		{"(" + m + " > " + k + ")", `{a="x",name="m"}:5`, api.OK},
		{"(" + m + " < " + k + ")", ``, api.OK},
		{"(" + m + " > 5)", `{a="y",name="m"}:7`, api.OK},
		{"(" + m + " >= (2 + 3))", `{a="x",name="m"}:5 {a="y",name="m"}:7`, api.OK},
		{"(" + m + " == 5)", `{a="x",name="m"}:5`, api.OK},
		{"(" + m + " != 5)", `{a="y",name="m"}:7`, api.OK},
		{"(" + m + " < 7)", `{a="x",name="m"}:5`, api.OK},
		{"(" + m + " <= 5)", `{a="x",name="m"}:5`, api.OK},
		{"(" + m + " and " + k + ")", `{a="x",name="m"}:5`, api.OK},
		{"(" + m + " or " + k + ")", `{a="x",name="m"}:5 {a="y",name="m"}:7 {a="z",name="k"}:0`, api.OK},
		{"(" + m + " unless " + k + ")", `{a="y",name="m"}:7`, api.OK},
		{"sum by () (" + m + ")", `{}:12`, api.OK},
		{"sum by (a) ({a!=\"\"}[5])", `{a="x"}:7 {a="y"}:7 {a="z"}:0`, api.OK},
		{"min by (name) ({a!=\"\"}[5])", `{name="k"}:0 {name="m"}:5`, api.OK},
		{"max by (name,a) (" + m + ")", `{a="x",name="m"}:5 {a="y",name="m"}:7`, api.OK},
		{"count by (name) ({a!=\"\"}[5])", `{name="k"}:2 {name="m"}:2`, api.OK},
		{"sum by () ({}[5])", ``, api.ErrOver},
		{"({}[5] + 1)", ``, api.ErrTwice},
		{"({}[5] > 1)", `{a="x",name="k"}:2 {a="x",name="m"}:5 {a="y",name="m"}:7 {name="big"}:9223372036854775807`, api.OK},
		{"({}[5] > {}[5])", ``, api.ErrTwice},
		{"({}[5] and " + m + ")", ``, api.ErrTwice},
		// The first kid's error, then the second one's, then its own.
		{"((" + big + " + 1) + (" + k + " / 0))", ``, api.ErrOver},
		{"((" + k + " / 0) + (" + big + " + 1))", ``, api.ErrZero},
		{"((1 / 0) + (" + big + " + 1))", ``, api.ErrZero},
		{"((" + big + " + 1) + (1 / 0))", ``, api.ErrOver},
		{"({}[5] + (1 / 0))", ``, api.ErrZero},
		{"((1 / 0) + {}[5])", ``, api.ErrZero},
		{"({}[5] > (1 / 0))", ``, api.ErrZero},
		{"({}[5] and (" + big + " + 1))", ``, api.ErrOver},
		{"sum by () (({}[5] / (1 / 0)))", ``, api.ErrZero},
		{"({name=\"none\"}[5] / (1 / 0))", ``, api.ErrZero},
		{"({name=\"none\"}[5] and (" + big + " + 1))", ``, api.ErrOver},
	} {
		if got, err := eval.At(parsed(t, c.x), s, 12); told(got) != c.want || err != c.err {
			t.Error("At", c.x, told(got), err)
		}
	}
}

func TestNotRight(t *testing.T) {
	s := world(t)
	deep := api.Expr{Kind: api.XPick, N: 5}
	for range 8 {
		deep = api.Expr{Kind: api.XAnd, Kids: []api.Expr{deep, {Kind: api.XPick, N: 5}}}
	}
	for _, x := range []api.Expr{{}, {Kind: api.XNum, N: 1}, {Kind: api.XPick}, {Kind: api.XPick, N: -5}, {Kind: api.XSum}, deep, parsed(t, "((1 / 0) + 1)"), {Kind: 99, Kids: []api.Expr{deep, deep}}} {
		if got, err := eval.At(x, s, 12); err != api.ErrRule || len(got) != 0 {
			t.Error("At of none", x.Kind, got, err)
		}
		eval.Changes(x, s, 0, 99)
	}
	eight := deep.Kids[0]
	if _, err := eval.At(eight, s, 12); err != api.ErrTwice {
		t.Error("At of one as deep as may be", err)
	}
	for _, n := range []int{math.MinInt, math.MaxInt} {
		eval.At(parsed(t, "{}[5]"), s, n)
		eval.Changes(parsed(t, "{}[5]"), s, n, n)
	}
}

func TestChanges(t *testing.T) {
	s := store.New()
	put(t, s, `{name="m"}`, 10, 5)
	put(t, s, `{name="k"}`, 15, 5)
	put(t, s, `{name="k"}`, 17, 5)
	for _, c := range []struct {
		x        string
		from, to int
		want     []int
	}{
		{`{name="m"}[5]`, 0, 99, []int{10, 15}},
		{`({name="m"}[5] + {name="m"}[7])`, 0, 99, []int{10, 15, 17}},
		{`({name="m"}[5] + {name="k"}[7])`, 0, 99, []int{10, 15, 17, 24}},
		{`sum by () (({name="m"}[5] or (1 + ({name="k"}[7] > 5))))`, 11, 17, []int{15, 17}},
		{`{}[5]`, 10, 22, []int{10, 15, 17, 22}},
		{`{name="none"}[5]`, 0, 99, nil},
		{`{}[5]`, 22, 10, nil},
	} {
		if got := eval.Changes(parsed(t, c.x), s, c.from, c.to); !slices.Equal(got, c.want) {
			t.Error("Changes", c.x, got)
		}
	}
}

// Between two Changes At is the same, error or not.
func TestSameBetweenChanges(t *testing.T) {
	dice := rand.New(rand.NewSource(10))
	texts := []string{
		`{a="x"}[7]`, `(({a="x"}[7] + {a="y"}[3]) > 2)`, `sum by (a) ({}[4])`, `({b="1"}[5] / {a="x"}[9])`, `(({}[2] and {a="x"}[8]) unless ({b="1"}[3] > 1))`, `count by () (({}[3] or {}[12]))`, `(6 / ({b="1"}[5] - 1))`,
	}
	for range 60 {
		s := store.New()
		for _, text := range []string{`{a="x"}`, `{a="y"}`, `{b="1"}`, `{b="1",name="m"}`, `{}`} {
			for at := dice.Intn(20); at < 60; at += 1 + dice.Intn(15) {
				put(t, s, text, at, dice.Intn(3))
			}
		}
		for _, text := range texts {
			x := parsed(t, text)
			changes := eval.Changes(x, s, 0, 80)
			if !slices.IsSorted(changes) || len(slices.Compact(slices.Clone(changes))) != len(changes) {
				t.Fatal("they rise", changes)
			}
			ahead, aheadErr := eval.At(x, s, 0)
			for at := 1; at <= 80; at++ {
				got, err := eval.At(x, s, at)
				if (told(got) != told(ahead) || err != aheadErr) && !slices.Contains(changes, at) {
					t.Fatal("another one, and no change", text, at)
				}
				ahead, aheadErr = got, err
			}
		}
	}
}

func TestMemory(t *testing.T) {
	s := world(t)
	for _, text := range []string{`{name="m"}[5]`, `({name="m"}[5] > 1)`, `({name="m"}[5] or {name="k"}[5])`} {
		x := parsed(t, text)
		was, _ := eval.At(x, s, 12)
		text := told(was)
		for _, p := range was {
			p.Set[0].Value = "spoiled"
		}
		if again, _ := eval.At(x, s, 12); told(again) != text {
			t.Error("At shares memory", told(again))
		}
		if expr.Print(x) != expr.Print(parsed(t, expr.Print(x))) {
			t.Error("the expression was changed")
		}
	}
}
