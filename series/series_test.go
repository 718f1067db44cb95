package series_test

import (
	"math"
	"math/rand"
	"slices"
	"testing"

	"klaxon/api"
	"klaxon/series"
)

// row makes samples of times and values.
func row(ns ...int) []api.Sample {
	var l []api.Sample
	for i := 0; i < len(ns); i += 2 {
		l = append(l, api.Sample{Time: ns[i], Value: ns[i+1]})
	}
	return l
}

// many is n samples at the times 0, 1, ..
func many(n int) []api.Sample {
	var l []api.Sample
	for i := range n {
		l = append(l, api.Sample{Time: i, Value: -i})
	}
	return l
}

func made(t *testing.T, l []api.Sample) *series.Series {
	t.Helper()
	var s series.Series
	if err := s.Add(l...); err != api.OK {
		t.Fatal("Add", err)
	}
	return &s
}

func TestAdd(t *testing.T) {
	last := api.MaxTime
	for _, c := range []struct {
		there, xs []api.Sample
		want      api.Errno
	}{
		{nil, nil, api.OK},
		{nil, row(0, 1), api.OK},
		{nil, row(last, 1), api.OK},
		{row(0, 1), row(1, 1, 2, 1, last, 7), api.OK},
		{row(5, 1), nil, api.OK},
		{nil, row(-1, 1), api.ErrForm},
		{nil, row(math.MinInt, 1), api.ErrForm},
		{nil, row(last+1, 1), api.ErrForm},
		{nil, row(math.MaxInt, 1), api.ErrForm},
		{row(5, 1), row(-1, 1), api.ErrForm},
		{row(5, 1), row(5, 1), api.ErrOrder},
		{row(5, 1), row(4, 1), api.ErrOrder},
		{row(5, 1), row(0, 1), api.ErrOrder},
		{nil, row(0, 1, 0, 1), api.ErrOrder},
		{nil, row(3, 1, 2, 1), api.ErrOrder},
		{row(1, 1), row(2, 1, 3, 1, 3, 1), api.ErrOrder},
		{row(1, 1), row(2, 1, 3, 1, -3, 1), api.ErrForm},
		{row(5, 1), row(4, 1, -1, 1), api.ErrOrder},
		{row(5, 1), row(-1, 1, 4, 1), api.ErrForm},
		{nil, many(200), api.OK},
		{nil, many(201), api.ErrFull},
		{many(199), row(500, 1), api.OK},
		{many(200), row(500, 1), api.ErrFull},
		{many(199), row(500, 1, 501, 1), api.ErrFull},
		{many(200), nil, api.OK},
		{many(200), row(-1, 1), api.ErrForm},
		{many(200), row(199, 1), api.ErrOrder},
		{many(200), row(500, 1, -1, 1), api.ErrFull},
		{many(200), row(500, 1, 500, 1), api.ErrFull},
		{many(199), row(500, 1, 500, 1), api.ErrOrder},
	} {
		s := made(t, c.there)
		if got := s.Add(c.xs...); got != c.want {
			t.Errorf("Add of %v behind %d: %d, want %d", c.xs, len(c.there), got, c.want)
		}
		want := slices.Clone(c.there)
		if c.want == api.OK {
			want = append(want, c.xs...)
		}
		if got := s.All(); !slices.Equal(got, want) {
			t.Errorf("All behind Add of %v: %v", c.xs, got)
		}
	}
}

func TestLists(t *testing.T) {
	var none series.Series
	if x, ok := none.Last(); ok || x != (api.Sample{}) || len(none.All()) != 0 || len(none.Between(0, 99)) != 0 || none.Cut(99) != 0 || len(none.Changes(1, 0, 99)) != 0 {
		t.Error("the zero Series is empty")
	}
	if v, ok := none.At(0, 10); ok || v != 0 {
		t.Error("At of none", v, ok)
	}
	l := row(10, 1, 20, 2, 30, 3)
	s := made(t, l)
	if x, ok := s.Last(); !ok || x != l[2] {
		t.Error("Last", x, ok)
	}
	for _, c := range []struct {
		from, to int
		want     []api.Sample
	}{
		{10, 30, l}, {0, 99, l}, {math.MinInt, math.MaxInt, l}, {11, 29, l[1:2]}, {20, 20, l[1:2]}, {10, 20, l[:2]}, {20, 30, l[1:]},
		{21, 29, nil}, {0, 9, nil}, {31, 99, nil}, {30, 10, nil}, {math.MaxInt, math.MinInt, nil},
	} {
		if got := s.Between(c.from, c.to); !slices.Equal(got, c.want) {
			t.Error("Between", c.from, c.to, got)
		}
	}
}

func TestCut(t *testing.T) {
	for before, want := range map[int]int{math.MinInt: 0, 0: 0, 10: 0, 11: 1, 20: 1, 21: 2, 30: 2, 31: 3, math.MaxInt: 3} {
		l := row(10, 1, 20, 2, 30, 3)
		s := made(t, l)
		if got := s.Cut(before); got != want || !slices.Equal(s.All(), l[want:]) {
			t.Error("Cut", before, got, s.All())
		}
		if want == 3 {
			if _, ok := s.Last(); ok {
				t.Error("Last of a series without samples")
			}
		}
	}
	s := made(t, many(200))
	if s.Cut(150) != 150 || s.Add(row(300, 1)...) != api.OK || len(s.All()) != 51 {
		t.Error("what is cut makes room")
	}
	s.Cut(1000)
	if s.Add(row(0, 1)...) != api.OK {
		t.Error("without samples each time is behind what is there")
	}
}

func TestAtRuns(t *testing.T) {
	s := made(t, row(10, 5, 20, 7))
	for _, c := range []struct {
		t, look, want int
		ok            bool
	}{
		{19, 10, 5, true}, {20, 10, 7, true}, {30, 10, 0, false}, {29, 10, 7, true}, {9, 10, 0, false}, {10, 10, 5, true}, {10, 1, 5, true},
		{10, 0, 0, false}, {11, 1, 0, false}, {19, 9, 0, false}, {19, 1 << 50, 5, true}, {1 << 50, 1 << 50, 7, true}, {1 << 50, 1<<50 - 20, 0, false},
		{1 << 50, 1<<50 - 19, 7, true}, {-(1 << 50), 1 << 50, 0, false}, {25, -5, 0, false}, {20, -(1 << 50), 0, false},
	} {
		if v, ok := s.At(c.t, c.look); v != c.want || ok != c.ok {
			t.Error("At", c.t, c.look, v, ok)
		}
	}
	for _, n := range []int{math.MinInt, math.MaxInt} {
		s.At(n, n)
		s.At(0, n)
		s.At(n, 0)
		s.Changes(n, n, n)
		s.Changes(n, 0, math.MaxInt)
	}
}

func TestChanges(t *testing.T) {
	s := made(t, row(10, 5, 20, 7))
	for _, c := range []struct {
		look, from, to int
		want           []int
	}{
		{5, 0, 99, []int{10, 15, 20, 25}},
		{10, 0, 99, []int{10, 20, 30}},
		{9, 0, 99, []int{10, 19, 20, 29}},
		{11, 0, 99, []int{10, 20, 31}},
		{5, 10, 25, []int{10, 15, 20, 25}},
		{5, 11, 24, []int{15, 20}},
		{5, 25, 10, nil},
		{5, 26, 99, nil},
		{1, 0, 99, []int{10, 11, 20, 21}},
		{api.MaxSpan, 0, 1 << 41, []int{10, 20, 20 + api.MaxSpan}},
	} {
		if got := s.Changes(c.look, c.from, c.to); !slices.Equal(got, c.want) {
			t.Error("Changes", c.look, c.from, c.to, got)
		}
	}
	last := api.MaxTime
	if got := made(t, row(last, 1)).Changes(api.MaxSpan, 0, 1<<41); !slices.Equal(got, []int{last, last + api.MaxSpan}) {
		t.Error("at the last time", got)
	}
}

// At and Changes of any row are what a walk through all samples says.
func TestAgainstWalk(t *testing.T) {
	dice := rand.New(rand.NewSource(4))
	for range 200 {
		var l []api.Sample
		for at := dice.Intn(4); at < 60 && len(l) < 12; at += 1 + dice.Intn(9) {
			l = append(l, api.Sample{Time: at, Value: dice.Intn(3)})
		}
		s := made(t, l)
		look := 1 + dice.Intn(12)
		at := func(when int) (v int, ok bool) {
			for _, x := range l {
				if x.Time <= when {
					v, ok = x.Value, x.Time > when-look
				}
			}
			if !ok {
				v = 0
			}
			return v, ok
		}
		changes := s.Changes(look, 0, 80)
		for when := 0; when <= 80; when++ {
			v, ok := at(when)
			if got, gotOK := s.At(when, look); got != v || gotOK != ok {
				t.Fatal("At", l, when, look, got, gotOK)
			}
			before, beforeOK := at(when - 1)
			if (v != before || ok != beforeOK) && !slices.Contains(changes, when) {
				t.Fatal("no change told", l, when, look)
			}
		}
		if !slices.IsSorted(changes) || len(slices.Compact(slices.Clone(changes))) != len(changes) {
			t.Fatal("they rise", changes)
		}
	}
}

// spoil writes over all of l, the room behind it, too.
func spoil[T any](l []T, mark T) {
	l = l[:cap(l)]
	for i := range l {
		l[i] = mark
	}
}

func TestNewMemory(t *testing.T) {
	given := append(row(1, 1, 2, 2, 3, 3), row(9, 9, 9, 9, 9, 9)...)
	kept := slices.Clone(given)
	var s series.Series
	s.Add(given[:3]...)
	s.Add(row(4, 4)...)
	given[0].Value = 99
	if got := s.All(); !slices.Equal(got, row(1, 1, 2, 2, 3, 3, 4, 4)) {
		t.Error("what was handed in is kept", got)
	}
	given[0].Value = 1
	if !slices.Equal(given, kept) {
		t.Error("what was handed in was changed", given)
	}
	for _, got := range [][]api.Sample{s.All(), s.Between(0, 3), s.Between(2, 9)} {
		spoil(got, api.Sample{Time: 7, Value: 7})
	}
	if got := s.All(); !slices.Equal(got, row(1, 1, 2, 2, 3, 3, 4, 4)) {
		t.Error("an answer shares memory", got)
	}
	a, b := s.All(), s.Between(1, 2)
	s.Cut(3)
	s.Add(row(5, 5)...)
	if !slices.Equal(a, row(1, 1, 2, 2, 3, 3, 4, 4)) || !slices.Equal(b, row(1, 1, 2, 2)) {
		t.Error("a later call changed an answer")
	}
}
