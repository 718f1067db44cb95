package live_test

import (
	"fmt"
	"math"
	"math/rand"
	"slices"
	"strconv"
	"strings"
	"testing"

	"klaxon/api"
	"klaxon/eval"
	"klaxon/life"
	"klaxon/live"
	"klaxon/lset"
	"klaxon/rule"
	"klaxon/store"
	"klaxon/vec"
)

func ruled(t *testing.T, s string) api.Rule {
	t.Helper()
	r, at, err := rule.Parse(s)
	if err != api.OK {
		t.Fatal("not a rule:", s, at, err)
	}
	return r
}

func set(t *testing.T, s string) []api.Label {
	t.Helper()
	l, ok := lset.Parse(s)
	if !ok {
		t.Fatal("not a set:", s)
	}
	return l
}

func put(t *testing.T, s *store.Store, text string, at, value int) {
	t.Helper()
	if err := s.Put(set(t, text), api.Sample{Time: at, Value: value}); err != api.OK {
		t.Fatal("Put", text, at, err)
	}
}

// feed puts values at the times 0, step, ..; a dot is none.
func feed(t *testing.T, s *store.Store, text string, step int, values string) {
	t.Helper()
	for i, word := range strings.Fields(values) {
		if n, err := strconv.Atoi(word); err == nil {
			put(t, s, text, i*step, n)
		}
	}
}

func grid(start, step, n int) api.Grid { return api.Grid{Start: start, Step: step, N: n} }

// told is turns as a text: ticks, states and sets.
func told(turns []api.Turn) string {
	var words []string
	for _, x := range turns {
		words = append(words, strconv.Itoa(x.Tick)+"-pF"[x.State:x.State+1]+lset.Print(x.Set))
	}
	return strings.Join(words, " ")
}

func active(l *live.Live) string {
	var words []string
	for _, p := range l.Active() {
		words = append(words, lset.Print(p.Set)+":"+strconv.Itoa(p.Value))
	}
	return strings.Join(words, " ")
}

const high = `alert high for 10 keep 0 if ({name="m"}[10] > 4)`

func TestRuns(t *testing.T) {
	s := store.New()
	feed(t, s, `{name="m"}`, 5, "5 5 5")
	// The samples are at 0, 5 and 10: the last one is gone at 20.
	if got := told(live.Run(ruled(t, high), s, grid(0, 5, 10))); got != "0p{} 2F{} 4-{}" {
		t.Error(got)
	}
	if got := live.Errs(ruled(t, high), s, grid(0, 5, 10)); len(got) != 0 {
		t.Error(got)
	}
	if got := told(live.Run(ruled(t, high), s, grid(0, 5, 4))); got != "0p{} 2F{}" {
		t.Error("fewer ticks", got)
	}
	if got := told(live.Run(ruled(t, high), s, grid(5, 5, 10))); got != "0p{} 2F{} 3-{}" {
		t.Error("a later start", got)
	}
	if got := told(live.Run(ruled(t, high), s, grid(0, 10, 10))); got != "0p{} 1F{} 2-{}" {
		t.Error("longer steps", got)
	}
}

func TestNew(t *testing.T) {
	r, g := ruled(t, high), grid(0, 5, 10)
	s := store.New()
	feed(t, s, `{name="m"}`, 5, "5 5 5")
	l := live.New(r, g)
	if l == nil || l.Ticks() != 0 || l.State(nil) != api.Inactive || len(l.Active()) != 0 {
		t.Fatal("no tick was yet")
	}
	none := func(name string, r api.Rule, g api.Grid) {
		t.Helper()
		if live.New(r, g) != nil || len(live.Run(r, s, g)) != 0 || len(live.Errs(r, s, g)) != 0 {
			t.Error("may not be:", name)
		}
	}
	none("zero", api.Rule{}, api.Grid{})
	none("grid", r, grid(0, 0, 10))
	none("start", r, grid(-1, 5, 10))
	none("many", r, grid(0, 5, api.MaxTicks+1))
	none("huge", r, grid(math.MaxInt, math.MaxInt, math.MaxInt))
	bad := r
	bad.For = -1
	none("for", bad, g)
	bad = r
	bad.Expr = api.Expr{Kind: api.XNum}
	none("number", bad, g)
	if live.New(r, grid(api.MaxTime, api.MaxSpan, api.MaxTicks)) == nil || live.New(r, grid(0, 1, 0)) == nil {
		t.Error("may be")
	}
	if len(live.Run(r, s, grid(0, 5, 0))) != 0 {
		t.Error("without ticks no turns")
	}
}

func TestTick(t *testing.T) {
	s := store.New()
	feed(t, s, `{a="x",name="m"}`, 5, "5 5 5 5 1 1")
	feed(t, s, `{a="y",name="m"}`, 5, "1 5 1 5 5 5")
	l := live.New(ruled(t, `alert high for 5 keep 5 if ({name="m"}[5] > 4)`), grid(0, 5, 6))
	for tick, want := range []struct {
		turns, active string
		x, y          int
	}{
		{`0p{a="x"}`, `{a="x"}:1`, api.Pending, api.Inactive},
		{`1F{a="x"} 1p{a="y"}`, `{a="x"}:2 {a="y"}:1`, api.Firing, api.Pending},
		{`2-{a="y"}`, `{a="x"}:2`, api.Firing, api.Inactive},
		{`3p{a="y"}`, `{a="x"}:2 {a="y"}:1`, api.Firing, api.Pending},
		{`4F{a="y"}`, `{a="x"}:2 {a="y"}:2`, api.Firing, api.Firing},
		{`5-{a="x"}`, `{a="y"}:2`, api.Inactive, api.Firing},
	} {
		turns, err := l.Tick(s)
		if told(turns) != want.turns || err != api.OK || l.Ticks() != tick+1 || active(l) != want.active {
			t.Error(tick, told(turns), err, l.Ticks(), active(l))
		}
		if x, y := l.State(set(t, `{a="x"}`)), l.State(set(t, `{a="y"}`)); x != want.x || y != want.y {
			t.Error("State", tick, x, y)
		}
		if l.State(nil) != api.Inactive || l.State(set(t, `{a="x",name="m"}`)) != api.Inactive || l.State([]api.Label{{Name: "A"}}) != api.Inactive {
			t.Error("State of sets without an alert")
		}
	}
	for range 3 {
		if turns, err := l.Tick(s); err != api.ErrRange || len(turns) != 0 || l.Ticks() != 6 || active(l) != `{a="y"}:2` {
			t.Error("behind the last tick", told(turns), err, l.Ticks(), active(l))
		}
	}
	empty := live.New(ruled(t, high), grid(0, 5, 0))
	if _, err := empty.Tick(s); err != api.ErrRange || empty.Ticks() != 0 {
		t.Error("without ticks", err)
	}
}

func TestErrors(t *testing.T) {
	// At 10 the sum overflows: the alerts stay as they were.
	s := store.New()
	feed(t, s, `{a="x",name="m"}`, 5, "5 5 9223372036854775807 5 . .")
	feed(t, s, `{a="y",name="m"}`, 5, "1 1 1 1 1 .")
	r := ruled(t, `alert sum for 10 keep 0 if (sum by () ({name="m"}[5]) > 4)`)
	l := live.New(r, grid(0, 5, 7))
	for tick, want := range []struct {
		turns, active string
		err           api.Errno
	}{
		{`0p{}`, `{}:1`, api.OK}, {``, `{}:1`, api.OK}, {``, `{}:1`, api.ErrOver}, {`3F{}`, `{}:2`, api.OK}, {`4-{}`, ``, api.OK}, {``, ``, api.OK}, {``, ``, api.OK},
	} {
		turns, err := l.Tick(s)
		if told(turns) != want.turns || err != want.err || l.Ticks() != tick+1 || active(l) != want.active {
			t.Error(tick, told(turns), err, l.Ticks(), active(l))
		}
	}
	if got := told(live.Run(r, s, grid(0, 5, 7))); got != "0p{} 3F{} 4-{}" {
		t.Error(got)
	}
	if got := fmt.Sprint(live.Errs(r, s, grid(0, 5, 7))); got != fmt.Sprint([]api.Turnoff{{Tick: 2, Err: api.ErrOver}}) {
		t.Error(got)
	}

	// Two of one set without name.
	two := store.New()
	feed(t, two, `{a="x",name="m"}`, 5, "5 5 5 5")
	feed(t, two, `{a="x",name="k"}`, 5, ". 5 . .")
	feed(t, two, `{b="1"}`, 5, "5 5 . .")
	r = ruled(t, `alert any for 0 keep 0 if ({}[5] > 4)`)
	if got := told(live.Run(r, two, grid(0, 5, 5))); got != `0F{a="x"} 0F{b="1"} 2-{b="1"} 4-{a="x"}` {
		t.Error(got)
	}
	if got := fmt.Sprint(live.Errs(r, two, grid(0, 5, 5))); got != fmt.Sprint([]api.Turnoff{{Tick: 1, Err: api.ErrTwice}}) {
		t.Error(got)
	}
	zero := ruled(t, `alert none for 0 keep 0 if ({}[5] / 0)`)
	if got := fmt.Sprint(live.Errs(zero, two, grid(0, 5, 5))); got != fmt.Sprint([]api.Turnoff{{Tick: 0, Err: api.ErrZero}, {Tick: 1, Err: api.ErrTwice}, {Tick: 2, Err: api.ErrZero}, {Tick: 3, Err: api.ErrZero}}) {
		t.Error(got)
	}
}

// Sets in the order of their texts, without name: with it they would be in another one.
func TestOrder(t *testing.T) {
	s := store.New()
	feed(t, s, `{a="z",name="a"}`, 5, "5")
	feed(t, s, `{name="b",z="1"}`, 5, "5")
	feed(t, s, `{name="c",o="1"}`, 5, "5")
	feed(t, s, `{name="d"}`, 5, "5")
	if got := told(live.Run(ruled(t, `alert any for 0 keep 0 if {}[5]`), s, grid(0, 5, 2))); got != `0F{a="z"} 0F{o="1"} 0F{z="1"} 0F{} 1-{a="z"} 1-{o="1"} 1-{z="1"} 1-{}` {
		t.Error(got)
	}
}

func random(t *testing.T, dice *rand.Rand) *store.Store {
	s := store.New()
	for _, text := range []string{`{a="x",name="m"}`, `{a="y",name="m"}`, `{b="1",name="m"}`, `{name="m"}`, `{a="x",name="k"}`} {
		for at := dice.Intn(40); at < 150; at += 1 + dice.Intn(25) {
			put(t, s, text, at, dice.Intn(4))
		}
	}
	return s
}

func rules(t *testing.T, dice *rand.Rand) api.Rule {
	texts := []string{
		`({name="m"}[20] > 1)`, `({}[12] > 1)`, `(6 / {name="m"}[20])`, `(({name="m"}[9] + {name="k"}[20]) > 3)`, `(sum by (a) ({}[15]) > 3)`, `({name="m"}[15] unless {name="k"}[8])`, `({name="m"}[10] or {name="k"}[30])`,
	}
	return ruled(t, fmt.Sprintf("alert r for %d keep %d if %s", dice.Intn(40), dice.Intn(30), texts[dice.Intn(len(texts))]))
}

// Each alert is stepped by life at each tick that doesn't err.
func TestAgainstLife(t *testing.T) {
	dice := rand.New(rand.NewSource(13))
	for range 200 {
		s, r, g := random(t, dice), rules(t, dice), grid(dice.Intn(20), 1+dice.Intn(9), dice.Intn(25))
		lives := map[string]life.Life{`{a="x"}`: {}, `{a="y"}`: {}, `{b="1"}`: {}, `{}`: {}}
		order := []string{`{a="x"}`, `{a="y"}`, `{b="1"}`, `{}`}
		var want []string
		var errs []api.Turnoff
		for tick := range g.N {
			points, err := eval.At(r.Expr, s, g.Start+tick*g.Step)
			if err == api.OK && vec.Twice(points) {
				err = api.ErrTwice
			}
			if err != api.OK {
				errs = append(errs, api.Turnoff{Tick: tick, Err: err})
				continue
			}
			for _, text := range order {
				holds := slices.ContainsFunc(points, func(p api.Point) bool { return lset.Print(lset.Drop(p.Set, "name")) == text })
				was := lives[text]
				lives[text] = was.Next(tick, g.Step, r.For, r.Keep, holds)
				if lives[text].State != was.State {
					want = append(want, strconv.Itoa(tick)+"-pF"[lives[text].State:lives[text].State+1]+text)
				}
			}
		}
		if got := told(live.Run(r, s, g)); got != strings.Join(want, " ") {
			t.Fatal(rule.Print(r), got, want)
		}
		if got := live.Errs(r, s, g); !slices.Equal(got, errs) {
			t.Fatal(rule.Print(r), got, errs)
		}
	}
}

// What an alert does hangs on its own set's points alone.
func TestAlone(t *testing.T) {
	dice := rand.New(rand.NewSource(131))
	for range 50 {
		s := random(t, dice)
		alone := store.New()
		for _, x := range s.Samples(set(t, `{a="y",name="m"}`)) {
			put(t, alone, `{a="y",name="m"}`, x.Time, x.Value)
		}
		r, g := ruled(t, `alert r for 12 keep 9 if ({name="m"}[20] > 1)`), grid(0, 4, 40)
		var own []api.Turn
		for _, turn := range live.Run(r, s, g) {
			if lset.Print(turn.Set) == `{a="y"}` {
				own = append(own, turn)
			}
		}
		if got := live.Run(r, alone, g); told(got) != told(own) {
			t.Fatal(told(got), told(own))
		}
	}
}

func TestMemory(t *testing.T) {
	s := store.New()
	feed(t, s, `{a="x",name="m"}`, 5, "5 5 5 . .")
	r := ruled(t, high)
	l := live.New(r, grid(0, 5, 6))
	r.Expr.Kids[0].Ms[0].Value = "spoiled"
	r.Expr.Kids[1].N = 99
	r.Expr.Kids[0] = api.Expr{}
	all := ""
	for range 6 {
		turns, err := l.Tick(s)
		if err != api.OK {
			t.Fatal("the rule that was handed in is kept", err)
		}
		all += told(turns) + ";"
		for _, x := range turns {
			x.Set[0].Value = "spoiled"
		}
		for _, p := range l.Active() {
			p.Set[0].Value = "spoiled"
		}
		if l.Ticks() < 5 && active(l) == "" || strings.Contains(active(l), "spoiled") {
			t.Fatal("an answer shares memory", active(l))
		}
	}
	if all != `0p{a="x"};;2F{a="x"};;4-{a="x"};;` {
		t.Error(all)
	}
	if got := fmt.Sprint(s.Sets()); got != "[[{a x} {name m}]]" {
		t.Error("the store was changed", got)
	}
}
