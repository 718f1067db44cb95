package back_test

import (
	"fmt"
	"math"
	"math/rand"
	"slices"
	"strconv"
	"strings"
	"testing"

	"klaxon/api"
	"klaxon/back"
	"klaxon/eval"
	"klaxon/life"
	"klaxon/live"
	"klaxon/lset"
	"klaxon/rule"
	"klaxon/span"
	"klaxon/store"
	"klaxon/vec"
)

func ruled(t *testing.T, s string) api.Rule {
	t.Helper()
	r, at, err := rule.Parse(s)
	if err != api.OK {
		t.Fatal("not a rule:", s, at, err)
	}
	return r
}

func put(t *testing.T, s *store.Store, text string, at, value int) {
	t.Helper()
	set, ok := lset.Parse(text)
	if err := s.Put(set, api.Sample{Time: at, Value: value}); err != api.OK || !ok {
		t.Fatal("Put", text, at, err)
	}
}

// feed puts values at the times 0, step, ..; a dot is none.
func feed(t *testing.T, s *store.Store, text string, step int, values string) {
	t.Helper()
	for i, word := range strings.Fields(values) {
		if n, err := strconv.Atoi(word); err == nil {
			put(t, s, text, i*step, n)
		}
	}
}

func grid(start, step, n int) api.Grid { return api.Grid{Start: start, Step: step, N: n} }

func row(ends ...int) []api.Span {
	var l []api.Span
	for i := 0; i < len(ends); i += 2 {
		l = append(l, api.Span{From: ends[i], To: ends[i+1]})
	}
	return l
}

// told is a report as a text.
func told(r api.Report) string {
	text := ""
	for _, s := range r.Stories {
		text += fmt.Sprint(lset.Print(s.Set), "p", s.Pending, "F", s.Firing, " ")
	}
	return text + fmt.Sprint(r.Errs)
}

const high = `alert high for 10 keep 0 if ({name="m"}[10] > 4)`

func TestPoints(t *testing.T) {
	for _, c := range []struct {
		g       api.Grid
		changes []int
		want    []int
	}{
		{grid(0, 5, 10), nil, []int{0}},
		{grid(0, 5, 0), []int{5}, nil},
		{grid(0, 5, 1), []int{5}, []int{0}},
		{grid(0, 5, 10), []int{10, 12, 15, 16}, []int{0, 2, 3, 4}},
		{grid(0, 5, 10), []int{16, 1, 16, 5, 4}, []int{0, 1, 4}},
		{grid(0, 5, 10), []int{-5, 0, math.MinInt}, []int{0}},
		{grid(0, 5, 10), []int{45, 46, 50, math.MaxInt}, []int{0, 9}},
		{grid(100, 5, 10), []int{100, 99, 101, 105, 106, 145, 146}, []int{0, 1, 2, 9}},
		{grid(0, 1, 200), []int{199, 200, 1}, []int{0, 1, 199}},
		{grid(0, 1, 200), []int{math.MaxInt, math.MaxInt - 1}, []int{0}},
		{grid(api.MaxTime, api.MaxSpan, 200), []int{api.MaxTime + 1, api.MaxTime + 199*api.MaxSpan}, []int{0, 1, 199}},
	} {
		if got := back.Points(c.g, c.changes...); !slices.Equal(got, c.want) {
			t.Error("Points", c.g, c.changes, got)
		}
	}
}

func TestRuns(t *testing.T) {
	s := store.New()
	feed(t, s, `{name="m"}`, 5, "5 5 5")
	r := ruled(t, high)
	if got := told(back.Run(r, s, grid(0, 5, 10))); got != "{}p[{0 1}]F[{2 3}] []" {
		t.Error(got)
	}
	stories, errs := back.Holds(r, s, grid(0, 5, 10))
	if got := told(api.Report{Stories: stories, Errs: errs}); got != "{}p[]F[{0 3}] []" {
		t.Error("Holds", got)
	}
	if got := told(back.Run(r, s, grid(0, 5, 3))); got != "{}p[{0 1}]F[{2 2}] []" {
		t.Error(got)
	}
	if got := told(back.Run(r, s, grid(15, 5, 3))); got != "{}p[{0 0}]F[] []" {
		t.Error(got)
	}
	if got := told(back.Run(r, s, grid(20, 5, 3))); got != "[]" {
		t.Error(got)
	}
	bad := r
	bad.For = -1
	for _, got := range []api.Report{back.Run(bad, s, grid(0, 5, 3)), back.Run(r, s, grid(0, 0, 3)), back.Run(r, s, grid(0, 5, 201)), back.Run(api.Rule{}, s, api.Grid{}), back.Run(r, s, grid(math.MaxInt, math.MaxInt, math.MaxInt)), back.Run(r, s, grid(0, 5, 0))} {
		if len(got.Stories)+len(got.Errs) != 0 {
			t.Error("of none", told(got))
		}
	}
}

func TestErrors(t *testing.T) {
	s := store.New()
	feed(t, s, `{a="x",name="m"}`, 10, "5 5 9223372036854775807 5 1")
	feed(t, s, `{a="y",name="m"}`, 10, "1 1 1 1 1")
	r := ruled(t, `alert sum for 20 keep 0 if (sum by () ({name="m"}[10]) > 4)`)
	if got := told(back.Run(r, s, grid(0, 5, 12))); got != "{}p[{0 5}]F[{6 7}] [{4 3} {5 3}]" {
		t.Error(got)
	}
	stories, errs := back.Holds(r, s, grid(0, 5, 12))
	if got := told(api.Report{Stories: stories, Errs: errs}); got != "{}p[]F[{0 3} {6 7}] [{4 3} {5 3}]" {
		t.Error("Holds", got)
	}

	two := store.New()
	feed(t, two, `{a="x",name="m"}`, 5, "5 5 5 5")
	feed(t, two, `{a="x",name="k"}`, 5, ". 5 . .")
	feed(t, two, `{b="1"}`, 5, "5 5 . .")
	r = ruled(t, `alert any for 0 keep 0 if {}[5]`)
	if got := told(back.Run(r, two, grid(0, 5, 5))); got != `{a="x"}p[]F[{0 3}] {b="1"}p[]F[{0 1}] `+fmt.Sprint([]api.Turnoff{{Tick: 1, Err: api.ErrTwice}}) {
		t.Error(got)
	}
	stories, _ = back.Holds(r, two, grid(0, 5, 5))
	if got := told(api.Report{Stories: stories}); got != `{a="x"}p[]F[{0 0} {2 3}] {b="1"}p[]F[{0 0}] []` {
		t.Error("Holds", got)
	}
	zero := ruled(t, `alert none for 0 keep 0 if ({}[5] / 0)`)
	if got := told(back.Run(zero, two, grid(0, 5, 5))); got != fmt.Sprint([]api.Turnoff{{Tick: 0, Err: api.ErrZero}, {Tick: 1, Err: api.ErrTwice}, {Tick: 2, Err: api.ErrZero}, {Tick: 3, Err: api.ErrZero}}) {
		t.Error(got)
	}
}

func TestOrder(t *testing.T) {
	s := store.New()
	feed(t, s, `{a="z",name="a"}`, 5, ". 5")
	feed(t, s, `{name="b",z="1"}`, 5, "5")
	feed(t, s, `{name="c",o="1"}`, 5, ". . 5")
	feed(t, s, `{name="d"}`, 5, "5")
	if got := told(back.Run(ruled(t, `alert any for 0 keep 0 if {}[5]`), s, grid(0, 5, 9))); got != `{a="z"}p[]F[{1 1}] {o="1"}p[]F[{2 2}] {z="1"}p[]F[{0 0}] {}p[]F[{0 0}] []` {
		t.Error(got)
	}
}

func TestApply(t *testing.T) {
	for _, c := range []struct {
		holds, errs     []api.Span
		long, keep      int
		g               api.Grid
		pending, firing []api.Span
	}{
		{row(0, 3), nil, 10, 0, grid(0, 5, 10), row(0, 1), row(2, 3)},
		{row(0, 3), nil, 0, 0, grid(0, 5, 10), nil, row(0, 3)},
		{row(0, 3), nil, 15, 0, grid(0, 5, 10), row(0, 2), row(3, 3)},
		{row(0, 3), nil, 16, 0, grid(0, 5, 10), row(0, 3), nil},
		{row(0, 3), nil, 11, 0, grid(0, 5, 10), row(0, 2), row(3, 3)},
		{row(2, 4), nil, 5, 7, grid(0, 5, 10), row(2, 2), row(3, 5)},
		{row(2, 4), nil, 5, 10, grid(0, 5, 10), row(2, 2), row(3, 6)},
		{row(2, 4), nil, 5, 1000, grid(0, 5, 10), row(2, 2), row(3, 9)},
		{row(2, 9), nil, 5, 1000, grid(0, 5, 10), row(2, 2), row(3, 9)},
		// While it is kept it holds again: it fires on.
		{row(0, 2, 5, 5), nil, 10, 10, grid(0, 5, 10), row(0, 1), row(2, 7)},
		{row(0, 2, 5, 5), nil, 10, 9, grid(0, 5, 10), row(0, 1, 5, 5), row(2, 3)},
		{row(0, 1, 3, 4, 6, 9), nil, 10, 99, grid(0, 5, 10), row(0, 1, 3, 4, 6, 7), row(8, 9)},
		// At ticks that err all is as at the tick ahead.
		{row(0, 0, 2, 2), row(1, 1), 20, 0, grid(0, 10, 10), row(0, 1), row(2, 2)},
		{row(0, 0, 5, 5), row(1, 4), 20, 0, grid(0, 10, 10), row(0, 4), row(5, 5)},
		{row(0, 0), row(1, 4), 20, 0, grid(0, 10, 10), row(0, 4), nil},
		{row(0, 2), row(3, 5), 20, 0, grid(0, 10, 10), row(0, 1), row(2, 5)},
		{row(0, 2), row(3, 5), 20, 40, grid(0, 10, 10), row(0, 1), row(2, 6)},
		{row(0, 2), row(4, 5, 7, 7), 20, 30, grid(0, 10, 10), row(0, 1), row(2, 5)},
		{row(0, 2), row(4, 5, 7, 7), 20, 10, grid(0, 10, 10), row(0, 1), row(2, 5)},
		{row(0, 2), row(4, 9), 20, 10, grid(0, 10, 10), row(0, 1), row(2, 9)},
		{row(0, 2), row(4, 9), 20, 9, grid(0, 10, 10), row(0, 1), row(2, 2)},
		{nil, row(0, 9), 0, 0, grid(0, 10, 10), nil, nil},
		{row(3, 3), row(0, 2), 0, 0, grid(0, 10, 10), nil, row(3, 3)},
		{nil, nil, 0, 0, grid(0, 10, 10), nil, nil},
		{row(0, 3), nil, 10, 0, grid(0, 5, 0), nil, nil},
		// Ticks alone that are the grid's.
		{row(0, 9), nil, 10, 0, grid(0, 5, 4), row(0, 1), row(2, 3)},
		{row(0, 2), row(3, 9), 10, 0, grid(0, 5, 6), row(0, 1), row(2, 5)},
		{row(8, 9), row(6, 6), 0, 0, grid(0, 5, 6), nil, nil},
		{row(0, 0, 7, 9), nil, 0, 1000, grid(0, 5, 6), nil, row(0, 5)},
		{row(0, 199), nil, api.MaxSpan, api.MaxSpan, grid(0, 1, 200), row(0, 199), nil},
		{row(0, 199), nil, 199, 0, grid(0, 1, 200), row(0, 198), row(199, 199)},
		{row(0, 0), nil, 0, 198, grid(0, 1, 200), nil, row(0, 198)},
		{row(0, 199), nil, api.MaxSpan, 0, grid(0, api.MaxSpan, 200), row(0, 0), row(1, 199)},
	} {
		r := ruled(t, fmt.Sprintf("alert r for %d keep %d if {}[1]", c.long, c.keep))
		pending, firing := back.Apply(c.holds, c.errs, r, c.g)
		if !slices.Equal(pending, c.pending) || !slices.Equal(firing, c.firing) {
			t.Error("Apply", c.holds, c.errs, c.long, c.keep, c.g, pending, firing)
		}
	}
}

// Apply is life's steps, but at ticks that err.
func TestApplyAgainstLife(t *testing.T) {
	dice := rand.New(rand.NewSource(15))
	for range 3000 {
		n := dice.Intn(30)
		g := grid(dice.Intn(5), 1+dice.Intn(12), n)
		r := ruled(t, fmt.Sprintf("alert r for %d keep %d if {}[1]", dice.Intn(50), dice.Intn(50)))
		var holds, errs, pending, firing []int
		var l life.Life
		often, seldom := 1+dice.Intn(9), dice.Intn(5)
		for tick := range n {
			switch {
			case dice.Intn(10) < seldom:
				errs = append(errs, tick)
			case dice.Intn(10) < often:
				holds = append(holds, tick)
				l = l.Next(tick, g.Step, r.For, r.Keep, true)
			default:
				l = l.Next(tick, g.Step, r.For, r.Keep, false)
			}
			switch l.State {
			case api.Pending:
				pending = append(pending, tick)
			case api.Firing:
				firing = append(firing, tick)
			}
		}
		gotPending, gotFiring := back.Apply(span.Of(holds...), span.Of(errs...), r, g)
		if !slices.Equal(gotPending, span.Of(pending...)) || !slices.Equal(gotFiring, span.Of(firing...)) {
			t.Fatal(holds, errs, r.For, r.Keep, g, gotPending, gotFiring, pending, firing)
		}
	}
}

// Holds is what eval says at each tick; Run is what live does.
func TestAgainstLive(t *testing.T) {
	dice := rand.New(rand.NewSource(151))
	texts := []string{
		`({name="m"}[20] > 1)`, `({}[12] > 1)`, `(6 / {name="m"}[20])`, `(({name="m"}[9] + {name="k"}[20]) > 3)`, `(sum by (a) ({}[15]) > 3)`, `({name="m"}[15] unless {name="k"}[8])`, `({name="m"}[10] or {name="k"}[30])`, `(({a="x"}[7] * 4611686018427387904) > 1)`, `{b="1"}[1]`,
	}
	turned := 0
	for range 400 {
		s := store.New()
		for _, text := range []string{`{a="x",name="m"}`, `{a="y",name="m"}`, `{b="1",name="m"}`, `{name="m"}`, `{a="x",name="k"}`} {
			for at := dice.Intn(40); at < 150; at += 1 + dice.Intn(25) {
				put(t, s, text, at, dice.Intn(4))
			}
		}
		r := ruled(t, fmt.Sprintf("alert r for %d keep %d if %s", dice.Intn(40), dice.Intn(30), texts[dice.Intn(len(texts))]))
		g := grid(dice.Intn(60), 1+dice.Intn(9), dice.Intn(25))
		got := back.Run(r, s, g)

		var turns []string
		for _, story := range got.Stories {
			if !span.Right(story.Pending) || !span.Right(story.Firing) || len(span.Both(story.Pending, story.Firing)) > 0 {
				t.Fatal("spans that aren't right", told(got))
			}
			for _, x := range span.Turns(story.Pending, story.Firing, g.N) {
				turns = append(turns, fmt.Sprintf("%03d %s %d", x.Tick, lset.Print(story.Set), x.State))
			}
		}
		slices.Sort(turns)
		var want []string
		for _, x := range live.Run(r, s, g) {
			want = append(want, fmt.Sprintf("%03d %s %d", x.Tick, lset.Print(x.Set), x.State))
		}
		turned += len(want)
		if !slices.Equal(turns, want) || !slices.Equal(got.Errs, live.Errs(r, s, g)) {
			t.Fatal(rule.Print(r), g, told(got), want)
		}

		stories, errs := back.Holds(r, s, g)
		if !slices.Equal(errs, got.Errs) || len(stories) != len(got.Stories) {
			t.Fatal("Holds", errs, stories)
		}
		for i, story := range stories {
			if len(story.Pending) > 0 || !span.Right(story.Firing) || lset.Compare(story.Set, got.Stories[i].Set) != 0 || i > 0 && lset.Compare(stories[i-1].Set, story.Set) != -1 {
				t.Fatal("Holds", stories)
			}
			for tick := range g.N {
				points, err := eval.At(r.Expr, s, g.Start+tick*g.Step)
				there := err == api.OK && !vec.Twice(points) && slices.ContainsFunc(points, func(p api.Point) bool {
					return lset.Compare(lset.Drop(p.Set, "name"), story.Set) == 0
				})
				if span.Has(story.Firing, tick) != there {
					t.Fatal("Holds", rule.Print(r), tick, told(api.Report{Stories: stories}))
				}
			}
		}
	}
	if turned < 500 {
		t.Error("too few turns", turned)
	}
}

// Of whatever is handed in all ends.
func TestAnything(t *testing.T) {
	ns := []int{math.MinInt, -1, 0, 1, 5, math.MaxInt}
	s := store.New()
	feed(t, s, `{name="m"}`, 5, "5 5 5")
	r := ruled(t, high)
	for _, a := range ns {
		for _, b := range ns {
			for _, c := range ns {
				g := grid(a, b, c)
				odd := api.Rule{For: a, Keep: b}
				back.Points(g, ns...)
				back.Holds(r, s, g)
				back.Holds(odd, s, grid(0, 5, 5))
				back.Apply(row(a, b), row(b, c), odd, grid(0, 5, 5))
				back.Apply(row(0, 3), nil, odd, g)
				back.Run(odd, s, g)
			}
		}
	}
}

// spoil writes over all of l, the room behind it, too.
func spoil[T any](l []T, mark T) {
	l = l[:cap(l)]
	for i := range l {
		l[i] = mark
	}
}

func TestMemory(t *testing.T) {
	s := store.New()
	feed(t, s, `{a="x",name="m"}`, 5, "5 5 5 . . . 5 5 5 5")
	r := ruled(t, high)
	g := grid(0, 5, 15)
	was := told(back.Run(r, s, g))
	if was != `{a="x"}p[{0 1} {6 7}]F[{2 3} {8 10}] []` {
		t.Error(was)
	}
	got := back.Run(r, s, g)
	mark := api.Span{From: 77, To: 77}
	spoil(got.Stories[0].Set, api.Label{Name: "spoiled"})
	spoil(got.Stories[0].Pending, mark)
	spoil(got.Stories[0].Firing, mark)
	stories, _ := back.Holds(r, s, g)
	spoil(stories[0].Firing, mark)
	if told(back.Run(r, s, g)) != was {
		t.Error("answers share memory", told(back.Run(r, s, g)))
	}
	holds, errs := row(0, 3, 5, 7), row(4, 4, 9, 9)
	pending, firing := back.Apply(holds[:1], errs[:1], r, g)
	spoil(pending, mark)
	spoil(firing, mark)
	changes := []int{9, 3, 5}
	spoil(back.Points(g, changes[:2]...), 7)
	if !slices.Equal(holds, row(0, 3, 5, 7)) || !slices.Equal(errs, row(4, 4, 9, 9)) || !slices.Equal(changes, []int{9, 3, 5}) {
		t.Error("what was handed in was changed")
	}
}
