package span_test

import (
	"fmt"
	"math"
	"math/rand"
	"slices"
	"testing"

	"klaxon/api"
	"klaxon/span"
)

const last = api.MaxTicks - 1

// row makes spans of their ends.
func row(ends ...int) []api.Span {
	var l []api.Span
	for i := 0; i < len(ends); i += 2 {
		l = append(l, api.Span{From: ends[i], To: ends[i+1]})
	}
	return l
}

func TestRight(t *testing.T) {
	for _, l := range [][]api.Span{nil, {}, row(0, 0), row(0, last), row(last, last), row(0, 1, 3, 3), row(0, 0, 2, 2, 4, last)} {
		if !span.Right(l) {
			t.Error("is right", l)
		}
	}
	for _, l := range [][]api.Span{
		row(-1, 0), row(1, 0), row(0, last+1), row(last+1, last+1), row(0, 1, 2, 3), row(0, 1, 1, 3), row(0, 5, 2, 3), row(3, 4, 0, 1), row(0, 0, 2, 1), row(0, 0, 0, 0), row(0, 0, 2, last+1), row(0, 0, -5, -5),
		row(math.MinInt, math.MaxInt), row(0, math.MaxInt, 5, 5), row(math.MaxInt, math.MaxInt), row(0, 0, 2, 2, 3, 3),
	} {
		if span.Right(l) {
			t.Error("isn't right", l)
		}
	}
}

func TestOf(t *testing.T) {
	for _, c := range []struct {
		ticks []int
		want  []api.Span
	}{
		{nil, nil}, {[]int{3, 1, 2, 7}, row(1, 3, 7, 7)}, {[]int{5, 5, 5}, row(5, 5)}, {[]int{0, last}, row(0, 0, last, last)}, {[]int{-1, last + 1, math.MinInt, math.MaxInt}, nil},
		{[]int{-1, 0, last + 1, last, 1, 0}, row(0, 1, last, last)}, {[]int{4, 2, 0}, row(0, 0, 2, 2, 4, 4)},
	} {
		if got := span.Of(c.ticks...); !slices.Equal(got, c.want) {
			t.Error("Of", c.ticks, got)
		}
	}
}

func TestTicks(t *testing.T) {
	l := row(1, 3, 7, 7, last, last)
	if got := span.Ticks(l); !slices.Equal(got, []int{1, 2, 3, 7, last}) {
		t.Error("Ticks", got)
	}
	if span.Count(l) != 5 || span.Count(nil) != 0 || span.Count(row(0, last)) != api.MaxTicks || len(span.Ticks(nil)) != 0 {
		t.Error("Count", span.Count(l))
	}
	for tick := -2; tick < api.MaxTicks+2; tick++ {
		if got := span.Has(l, tick); got != slices.Contains([]int{1, 2, 3, 7, last}, tick) {
			t.Error("Has", tick, got)
		}
	}
	if span.Has(nil, 0) || span.Has(l, math.MinInt) || span.Has(l, math.MaxInt) {
		t.Error("Has none")
	}
}

func TestRuns(t *testing.T) {
	if got := span.Less(span.Of(3, 1, 2, 7), span.Of(2)); !slices.Equal(got, row(1, 1, 3, 3, 7, 7)) {
		t.Error("Less", got)
	}
	for _, c := range []struct{ a, b, join, both, less []api.Span }{
		{nil, nil, nil, nil, nil},
		{row(1, 3), nil, row(1, 3), nil, row(1, 3)},
		{nil, row(1, 3), row(1, 3), nil, nil},
		{row(1, 3), row(4, 5), row(1, 5), nil, row(1, 3)},
		{row(4, 5), row(1, 3), row(1, 5), nil, row(4, 5)},
		{row(1, 3), row(5, 5), row(1, 3, 5, 5), nil, row(1, 3)},
		{row(1, 9), row(3, 5), row(1, 9), row(3, 5), row(1, 2, 6, 9)},
		{row(3, 5), row(1, 9), row(1, 9), row(3, 5), nil},
		{row(1, 9), row(0, 1, 9, 12), row(0, 12), row(1, 1, 9, 9), row(2, 8)},
		{row(0, 2, 4, 6, 8, 9), row(2, 4, 6, 8), row(0, 9), row(2, 2, 4, 4, 6, 6, 8, 8), row(0, 1, 5, 5, 9, 9)},
		{row(0, 1, 3, 4, 6, 7), row(0, 7), row(0, 7), row(0, 1, 3, 4, 6, 7), nil},
		{row(0, 7), row(0, 1, 3, 4, 6, 7), row(0, 7), row(0, 1, 3, 4, 6, 7), row(2, 2, 5, 5)},
		{row(0, last), row(last, last), row(0, last), row(last, last), row(0, last-1)},
		{row(0, last), row(0, last), row(0, last), row(0, last), nil},
	} {
		if got := span.Join(c.a, c.b); !slices.Equal(got, c.join) {
			t.Error("Join", c.a, c.b, got)
		}
		if got := span.Both(c.a, c.b); !slices.Equal(got, c.both) {
			t.Error("Both", c.a, c.b, got)
		}
		if got := span.Less(c.a, c.b); !slices.Equal(got, c.less) {
			t.Error("Less", c.a, c.b, got)
		}
	}
	if len(span.Join()) != 0 || len(span.Join(nil, nil)) != 0 {
		t.Error("Join of none")
	}
	if got := span.Join(row(8, 9), row(0, 0, 5, 5), nil, row(2, 3), row(1, 1, 9, 10)); !slices.Equal(got, row(0, 3, 5, 5, 8, 10)) {
		t.Error("Join of many", got)
	}
	if got := span.Join(row(5, 5)); !slices.Equal(got, row(5, 5)) {
		t.Error("Join of one", got)
	}
}

func TestTurns(t *testing.T) {
	for _, c := range []struct {
		pending, firing []api.Span
		n               int
		want            string
	}{
		{nil, nil, 10, "[]"},
		{row(0, 1), row(2, 3), 10, "[{0 1 []} {2 2 []} {4 0 []}]"},
		{row(0, 1), row(2, 3), 4, "[{0 1 []} {2 2 []}]"},
		{row(0, 1), row(2, 3), 2, "[{0 1 []}]"},
		{row(0, 1), row(2, 3), 0, "[]"},
		{row(0, 1), row(2, 3), -5, "[]"},
		{row(3, 4), row(1, 1, 5, 6), 10, "[{1 2 []} {2 0 []} {3 1 []} {5 2 []} {7 0 []}]"},
		{row(3, 3, 5, 5), row(4, 4), 10, "[{3 1 []} {4 2 []} {5 1 []} {6 0 []}]"},
		{nil, row(last, last), api.MaxTicks, "[{199 2 []}]"},
		{nil, row(0, last), api.MaxTicks, "[{0 2 []}]"},
		{nil, row(0, last), api.MaxTicks + 1, "[{0 2 []} {200 0 []}]"},
		{row(last, last), nil, math.MaxInt, "[{199 1 []} {200 0 []}]"},
		{row(0, 1), row(2, 3), math.MinInt, "[]"},
	} {
		if got := fmt.Sprint(span.Turns(c.pending, c.firing, c.n)); got != c.want {
			t.Error("Turns", c.pending, c.firing, c.n, got)
		}
	}
}

// Of any sets of ticks all is what going through all ticks says.
func TestAgainstTicks(t *testing.T) {
	dice := rand.New(rand.NewSource(14))
	for range 2000 {
		sets := make([]map[int]int, 3)
		lists := make([][]api.Span, 3)
		size := []int{12, 30, api.MaxTicks}[dice.Intn(3)]
		for i := range sets {
			sets[i] = map[int]int{}
			var ticks []int
			for range dice.Intn(2 * size) {
				tick := dice.Intn(size) + (api.MaxTicks-size)*dice.Intn(2)
				sets[i][tick] = 1
				ticks = append(ticks, tick)
			}
			lists[i] = span.Of(ticks...)
		}
		var join, both, less []int
		states := make([]int, api.MaxTicks)
		for tick := range api.MaxTicks {
			a, b, c := sets[0][tick], sets[1][tick], sets[2][tick]
			if a+b+c > 0 {
				join = append(join, tick)
			}
			if a+b == 2 {
				both = append(both, tick)
			}
			if a > b {
				less = append(less, tick)
				states[tick] = api.Pending
			}
			if b > 0 {
				states[tick] = api.Firing
			}
		}
		for name, c := range map[string]struct {
			got  []api.Span
			want []int
		}{"Join": {span.Join(lists...), join}, "Both": {span.Both(lists[0], lists[1]), both}, "Less": {span.Less(lists[0], lists[1]), less}} {
			if !span.Right(c.got) || !slices.Equal(span.Ticks(c.got), c.want) || span.Count(c.got) != len(c.want) {
				t.Fatal(name, lists, c.got)
			}
		}
		n := dice.Intn(api.MaxTicks + 1)
		var want []api.Turn
		ahead := api.Inactive
		for tick, state := range states[:n] {
			if state != ahead {
				want = append(want, api.Turn{Tick: tick, State: state})
			}
			ahead = state
		}
		if got := span.Turns(span.Less(lists[0], lists[1]), lists[1], n); fmt.Sprint(got) != fmt.Sprint(want) {
			t.Fatal("Turns", got, want)
		}
	}
}

// Of whatever spans all ends.
func TestAnySpans(t *testing.T) {
	dice := rand.New(rand.NewSource(141))
	ns := []int{math.MinInt, -1, 0, 1, 5, last, api.MaxTicks, 1 << 40, math.MaxInt}
	random := func() []api.Span {
		var l []api.Span
		for range dice.Intn(6) {
			l = append(l, row(ns[dice.Intn(len(ns))], ns[dice.Intn(len(ns))])...)
		}
		return l
	}
	for range 3000 {
		a, b, n := random(), random(), ns[dice.Intn(len(ns))]
		span.Right(a)
		span.Ticks(a)
		span.Count(a)
		span.Has(a, n)
		span.Join(a, b)
		span.Both(a, b)
		span.Less(a, b)
		span.Turns(a, b, n)
	}
}

// spoil writes over all of l, the room behind it, too.
func spoil[T any](l []T, mark T) {
	l = l[:cap(l)]
	for i := range l {
		l[i] = mark
	}
}

func TestMemory(t *testing.T) {
	given := row(1, 3, 5, 6, 9, 9)
	l, other := given[:2], row(2, 5, 77, 77)
	was, wasOther := slices.Clone(given), slices.Clone(other)
	ticks := []int{7, 3, 5, 99}
	for _, got := range [][]api.Span{span.Of(ticks[:3]...), span.Join(l), span.Join(l, other[:1]), span.Both(l, l), span.Both(l, other[:1]), span.Less(l, nil), span.Less(l, other[:1])} {
		spoil(got, api.Span{From: 55, To: 55})
	}
	span.Turns(l, nil, 10)
	spoil(span.Ticks(l), 5)
	if !slices.Equal(given, was) || !slices.Equal(other, wasOther) || !slices.Equal(ticks, []int{7, 3, 5, 99}) {
		t.Error("what was handed in was changed", given, other, ticks)
	}
}
