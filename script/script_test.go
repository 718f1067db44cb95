package script_test

import (
	"fmt"
	"math"
	"math/rand"
	"slices"
	"strconv"
	"strings"
	"testing"

	"klaxon/api"
	"klaxon/live"
	"klaxon/lset"
	"klaxon/notify"
	"klaxon/rule"
	"klaxon/script"
	"klaxon/store"
)

func ruled(t *testing.T, s string) api.Rule {
	t.Helper()
	r, at, err := rule.Parse(s)
	if err != api.OK {
		t.Fatal("not a rule:", s, at, err)
	}
	return r
}

func set(t *testing.T, s string) []api.Label {
	t.Helper()
	l, ok := lset.Parse(s)
	if !ok {
		t.Fatal("not a set:", s)
	}
	return l
}

// simple is a setup of one receiver, r, and no waits.
func simple() notify.Setup {
	return notify.Setup{Tree: api.Route{To: "r"}, Timing: api.Timing{Wait: 0, Interval: 1, Repeat: 100000}, Room: 8, Tries: 2}
}

func high(t *testing.T) api.Rule {
	return ruled(t, `alert high for 0 keep 0 if ({name="m"}[10] > 4)`)
}

func made(t *testing.T, step int, rs ...api.Rule) *script.World {
	t.Helper()
	w := script.New(rs, simple(), step, api.MaxBytes)
	if w == nil || w.Ticks() != 0 || w.Store() == nil || len(w.Store().Sets()) != 0 || len(w.Firing(0)) != 0 {
		t.Fatal("a new world has nothing")
	}
	return w
}

func put(t *testing.T, text string, at, value int) api.Act {
	t.Helper()
	return api.Act{Kind: api.AAppend, Set: set(t, text), X: api.Sample{Time: at, Value: value}}
}

func tick(oks ...bool) api.Act { return api.Act{Kind: api.ATick, Oks: oks} }
func act(kind, n int) api.Act  { return api.Act{Kind: kind, N: n} }

// told is what came of acts, as a text.
func told(l ...api.Told) string {
	var words []string
	for _, x := range l {
		word := strconv.Itoa(int(x.Err))
		for _, n := range x.Notes {
			word += "!" + n.To + n.Group + strings.Join(n.Alerts, "+")
		}
		words = append(words, word)
	}
	return strings.Join(words, " ")
}

func sets(all [][]api.Label) string {
	var words []string
	for _, l := range all {
		words = append(words, lset.Print(l))
	}
	return strings.Join(words, " ")
}

func stored(s *store.Store) string {
	text := ""
	for _, l := range s.Sets() {
		text += fmt.Sprint(lset.Print(l), s.Samples(l), ";")
	}
	return text
}

func do(t *testing.T, w *script.World, want string, as ...api.Act) {
	t.Helper()
	if got := told(w.Run(as...)...); got != want {
		t.Errorf("Run: %s, want %s", got, want)
	}
}

func TestRun(t *testing.T) {
	w := made(t, 5, high(t))
	do(t, w, `0 0!r{}{name="high"}`, put(t, `{name="m"}`, 0, 5), tick(true))
	if w.Ticks() != 1 || sets(w.Firing(0)) != `{name="high"}` {
		t.Error(w.Ticks(), sets(w.Firing(0)))
	}
	do(t, w, `0 0!r{} 0`, tick(), tick(true), tick(true))
	if len(w.Run()) != 0 {
		t.Error("of no acts")
	}
}

func TestNew(t *testing.T) {
	r := high(t)
	var rs []api.Rule
	for i := range api.MaxRules {
		x := r
		x.Name = "r" + strconv.Itoa(i)
		rs = append(rs, x)
	}
	if script.New(rs, simple(), 1, 0) == nil || script.New(nil, simple(), api.MaxSpan, math.MaxInt) == nil {
		t.Error("may be")
	}
	bad, odd, other := r, simple(), simple()
	bad.For = -1
	odd.Tries = -1
	other.Tree.To = ""
	for i, w := range []*script.World{
		script.New([]api.Rule{r, bad}, simple(), 5, 100), script.New([]api.Rule{{}}, simple(), 5, 100), script.New(append(rs, r), simple(), 5, 100), script.New([]api.Rule{r, rs[0], r}, simple(), 5, 100), script.New([]api.Rule{r}, odd, 5, 100), script.New([]api.Rule{r}, other, 5, 100), script.New([]api.Rule{r}, notify.Setup{}, 5, 100),
		script.New([]api.Rule{r}, simple(), 0, 100), script.New([]api.Rule{r}, simple(), -5, 100), script.New([]api.Rule{r}, simple(), api.MaxSpan+1, 100), script.New([]api.Rule{r}, simple(), math.MaxInt, 100),
	} {
		if w != nil {
			t.Error("may not be", i)
		}
	}
}

func TestFiring(t *testing.T) {
	six := `{a="1",b="1",c="1",d="1",e="1",f="1"}`
	w := made(t, 5, ruled(t, `alert high for 5 keep 5 if ({z!="q"}[5] > 4)`), ruled(t, `alert any for 0 keep 0 if {z!="q"}[5]`), ruled(t, `alert err for 0 keep 0 if ({z!="q"}[5] / 0)`))
	do(t, w, "0 0 0 0 0 0 0 0 0", put(t, `{a="x"}`, 0, 5), put(t, `{a="x"}`, 5, 5), put(t, `{a="x"}`, 10, 1), put(t, `{name="k",z="1"}`, 5, 5), put(t, `{name="k",z="1"}`, 10, 5), put(t, six, 0, 9), put(t, six, 5, 9), put(t, `{a="x"}`, 15, 1), put(t, `{}`, 0, 1))
	for k, want := range []string{
		`{a="x",name="any"} {name="any"}`,
		`{a="x",name="any"} {a="x",name="high"} {name="any",z="1"}`,
		`{a="x",name="any"} {a="x",name="high"} {name="any",z="1"} {name="high",z="1"}`,
		`{a="x",name="any"} {name="high",z="1"}`,
		``,
	} {
		if got := sets(w.Firing(k)); got != want {
			t.Error("Firing", k, got)
		}
	}
	for _, k := range []int{-1, api.MaxTicks, math.MinInt, math.MaxInt} {
		if len(w.Firing(k)) != 0 {
			t.Error("Firing at no tick", k)
		}
	}
	if w.Ticks() != 0 {
		t.Error("Firing is no tick")
	}
	do(t, w, "0", put(t, `{a="y"}`, 995, 5))
	if got := sets(w.Firing(199)); got != `{a="y",name="any"}` {
		t.Error("the last tick", got)
	}
}

func TestArchiveActs(t *testing.T) {
	w := made(t, 5, high(t))
	do(t, w, "0 2 1 1 0 0 0", put(t, `{a="x"}`, 5, 1), put(t, `{a="x"}`, 5, 1), put(t, `{a="x"}`, -5, 1), api.Act{Kind: api.AAppend, Set: []api.Label{{Name: "A"}}}, act(api.ASync, 0), act(api.ASeal, 0), put(t, `{a="x"}`, 6, 1))
	if got := stored(w.Store()); got != `{a="x"}[{5 1} {6 1}];` {
		t.Error(got)
	}
	do(t, w, "0", act(api.ACut, 6))
	if got := stored(w.Store()); got != `{a="x"}[{6 1}];` {
		t.Error("ACut", got)
	}
	for _, kind := range []int{0, -1, api.ABoot + 1, math.MaxInt} {
		do(t, w, "1", act(kind, 5))
	}
	if got := stored(w.Store()); got != `{a="x"}[{6 1}];` || w.Ticks() != 0 {
		t.Error("no act", got)
	}
	// Sync and Seal don't look at N; Seal needs room for an image, Sync needs none.
	tight := script.New(nil, simple(), 5, 14)
	do(t, tight, "0 0 8 8 0", put(t, `{a="x"}`, 5, 1), act(api.ASync, 1000), act(api.ASeal, 1000), act(api.ACut, 1000), act(api.ASync, 0))
	if got := stored(tight.Store()); got != `{a="x"}[{5 1}];` {
		t.Error("a tight disk", got)
	}
	do(t, w, "0 0", act(api.ASync, 1000), act(api.ASeal, 1000))
	if got := stored(w.Store()); got != `{a="x"}[{6 1}];` {
		t.Error("neither cuts", got)
	}
	// A small disk.
	small := script.New(nil, simple(), 5, 10)
	do(t, small, "8 0", put(t, `{a="x"}`, 5, 1), act(api.ASync, 0))
	if len(small.Firing(0)) != 0 || stored(small.Store()) != "" {
		t.Error("a small disk")
	}
}

func TestCrash(t *testing.T) {
	w := made(t, 5, high(t))
	do(t, w, "0 0 0", put(t, `{name="m"}`, 0, 5), act(api.ASync, 0), put(t, `{name="m"}`, 5, 5))
	// The fuse: one byte of the next frame.
	do(t, w, "0 9 9 9 9 9", act(api.AArm, 1), put(t, `{name="m"}`, 10, 5), put(t, `{name="m"}`, -1, 5), act(api.ASync, 0), act(api.ASeal, 0), act(api.ACut, 9))
	// The archive is bad, but there: ticks go on over what it has.
	do(t, w, `0!r{}{name="high"} 0`, tick(true), tick())
	if got := stored(w.Store()); got != `{name="m"}[{0 5} {5 5}];` {
		t.Error(got)
	}
	do(t, w, "0", act(api.ABoot, 0))
	if got := stored(w.Store()); got != `{name="m"}[{0 5}];` || w.Ticks() != 2 {
		t.Error("what was synced", got, w.Ticks())
	}
	// A new notifier tells what fires anew; ticks go on.
	do(t, w, `0 0!r{}{name="high"}`, put(t, `{name="m"}`, 8, 9), tick(true))
	if w.Ticks() != 3 || sets(w.Firing(2)) != `{name="high"}` {
		t.Error(w.Ticks(), sets(w.Firing(2)))
	}
	// With all that was written.
	do(t, w, "0 0", put(t, `{name="m"}`, 9, 9), act(api.ABoot, math.MaxInt))
	if got := stored(w.Store()); got != `{name="m"}[{0 5} {8 9} {9 9}];` {
		t.Error(got)
	}
	// AArm below 0 takes the fuse out.
	do(t, w, "0 0 0", act(api.AArm, 0), act(api.AArm, -1), act(api.ASync, 0))
	do(t, w, "0 9 0 0", act(api.AArm, 0), act(api.ASync, 0), act(api.ABoot, 9), act(api.ASync, 0))
}

func TestTicks(t *testing.T) {
	s := simple()
	s.Timing = api.Timing{Wait: 10, Interval: 5, Repeat: 1000}
	s.By = []string{"name", "a"}
	w := script.New([]api.Rule{high(t), ruled(t, `alert low for 0 keep 0 if ({name="m"}[10] < 4)`)}, s, 5, api.MaxBytes)
	do(t, w, "0 0 0 0 0 0", put(t, `{a="x",name="m"}`, 0, 5), put(t, `{a="x",name="m"}`, 10, 5), put(t, `{a="y",name="m"}`, 0, 5), put(t, `{a="y",name="m"}`, 8, 1), put(t, `{a="y",name="m"}`, 15, 1), put(t, `{a="x",name="m"}`, 15, 5))
	// At 10, two waits behind: high of x; high of y is gone by then; low of y began at 10.
	do(t, w, `0 0 0!r{a="x",name="high"}{a="x",name="high"} 0 0!r{a="y",name="low"}{a="y",name="low"}`, tick(true), tick(true), tick(true, true), tick(true, true), tick(true, true))
	// Sends that fail: failed behind Tries, and sent again ahead of it.
	w = made(t, 5, high(t))
	do(t, w, `0 0 0 0!r{}{name="high"}`, put(t, `{name="m"}`, 0, 5), tick(false), tick(false), tick(true))
	w = made(t, 5, high(t))
	do(t, w, `0 0 0 0!r{}`, put(t, `{name="m"}`, 0, 5), tick(false), tick(false), tick(false, true))

	w = made(t, 1, high(t))
	for range api.MaxTicks {
		do(t, w, "0", tick(true))
	}
	do(t, w, "10 10", tick(true), tick())
	if w.Ticks() != api.MaxTicks {
		t.Error("there were as many as may be", w.Ticks())
	}
	do(t, w, "0 0 10", put(t, `{name="m"}`, 0, 5), act(api.ABoot, 0), tick())
}

func TestLastTick(t *testing.T) {
	w := made(t, 1, high(t))
	for range api.MaxTicks - 1 {
		w.Do(tick())
	}
	do(t, w, `0 0!r{}{name="high"}`, put(t, `{name="m"}`, 195, 5), tick(true))
}

// Behind a crash what fires is what fires over what was synced, and a beginning of what wasn't.
func TestFiresBehindCrash(t *testing.T) {
	dice := rand.New(rand.NewSource(25))
	rs := []api.Rule{high(t), ruled(t, `alert sum for 10 keep 5 if (sum by (a) ({}[12]) > 7)`)}
	texts := []string{`{name="m"}`, `{a="x",name="m"}`, `{a="x",name="k"}`}
	for range 60 {
		w := made(t, 5, rs...)
		var samples []api.Act
		synced, fuse := 0, dice.Intn(300)
		w.Do(act(api.AArm, fuse))
		for i := range 16 {
			if dice.Intn(4) == 0 {
				if w.Do(act(api.ASync, 0)).Err == api.OK {
					synced = len(samples)
				}
				continue
			}
			a := put(t, texts[dice.Intn(3)], 3*i, dice.Intn(9))
			if w.Do(a).Err != api.OK {
				// It may have been written whole all the same.
				samples = append(samples, a)
				break
			}
			samples = append(samples, a)
		}
		w.Do(act(api.ABoot, dice.Intn(60)))
		got := ""
		for k := range 15 {
			got += sets(w.Firing(k)) + ";"
		}
		found := false
		for n := synced; n <= len(samples); n++ {
			s := store.New()
			for _, a := range samples[:n] {
				s.Put(a.Set, a.X)
			}
			if stored(s) != stored(w.Store()) {
				continue
			}
			found = true
			if want := firing(rs, s, 5, 15); got != want {
				t.Fatal("Firing", got, want)
			}
		}
		if !found {
			t.Fatal("neither what was synced nor more", stored(w.Store()))
		}
	}
}

// firing is what live says fires at each tick, with the rules' names.
func firing(rs []api.Rule, s *store.Store, step, n int) string {
	rows := make([][]string, n)
	for _, r := range rs {
		l := live.New(r, api.Grid{Step: step, N: n})
		for k := range n {
			l.Tick(s)
			for _, p := range l.Active() {
				if p.Value == api.Firing {
					rows[k] = append(rows[k], lset.Print(lset.With(p.Set, "name", r.Name)))
				}
			}
		}
	}
	text := ""
	for _, row := range rows {
		slices.Sort(row)
		text += strings.Join(row, " ") + ";"
	}
	return text
}

func TestMemory(t *testing.T) {
	rs := []api.Rule{high(t)}
	s := simple()
	s.By = []string{"a"}
	s.Tree.Kids = []api.Route{{Ms: []api.Matcher{{Name: "a", Value: "x", Kind: api.MEq}}, To: "x"}}
	w := script.New(rs, s, 5, api.MaxBytes)
	rs[0].Expr.Kids[0].Ms[0].Value = "spoiled"
	rs[0].Expr.Kids[1].N = 99
	rs[0].Name = "spoiled"
	s.By[0] = "spoiled"
	s.Tree.Kids[0].To = "spoiled"
	s.Tree.Kids[0].Ms[0].Value = "spoiled"
	a := put(t, `{a="x",name="m"}`, 0, 5)
	want := `0!x{a="x"}{a="x",name="high"}`
	for range 2 {
		w.Do(a)
		a.Set[0].Value = "spoiled"
		oks := []bool{true, false}
		got := w.Do(tick(oks[:1]...))
		if told(got) != want {
			t.Error("what was handed in is kept", told(got))
		}
		got.Notes[0].Alerts[0] = "spoiled"
		for _, l := range w.Firing(0) {
			l[0].Value = "spoiled"
		}
		w.Store().Cut(99)
		if got := sets(w.Firing(0)); got != `{a="x",name="high"}` {
			t.Error("an answer shares memory", got)
		}
		// The setup is kept for the notifier behind a boot.
		w.Do(act(api.ABoot, 9999))
		a = put(t, `{a="x",name="m"}`, 5, 5)
	}
}
