package mute_test

import (
	"fmt"
	"math"
	"math/rand"
	"slices"
	"strings"
	"testing"

	"klaxon/api"
	"klaxon/lset"
	"klaxon/match"
	"klaxon/mute"
)

func eq(name, value string) []api.Matcher {
	return []api.Matcher{{Name: name, Value: value, Kind: api.MEq}}
}

// sets makes label sets of their prints, blanks between.
func sets(t *testing.T, s string) [][]api.Label {
	t.Helper()
	var all [][]api.Label
	for _, text := range strings.Fields(s) {
		l, ok := lset.Parse(text)
		if !ok {
			t.Fatal("not a set:", text)
		}
		all = append(all, l)
	}
	return all
}

func told(all [][]api.Label) string {
	var texts []string
	for _, l := range all {
		texts = append(texts, lset.Print(l))
	}
	return strings.Join(texts, " ")
}

func TestRight(t *testing.T) {
	good, odd := eq("a", "x"), []api.Matcher{{Name: "a", Kind: 9}}
	long := slices.Repeat(good, 7)
	six := []string{"a", "b", "c", "d", "e", "a"}
	silence := func(ms []api.Matcher, from, to int) []api.Silence {
		return []api.Silence{{Ms: good, From: 1, To: 2}, {Ms: ms, From: from, To: to}}
	}
	inhibit := func(src, dst []api.Matcher, equal ...string) []api.Inhibit {
		return []api.Inhibit{{Src: good, Dst: good}, {Src: src, Dst: dst, Equal: equal}}
	}
	for i, ss := range [][]api.Silence{nil, silence(nil, 0, 0), silence(good, 5, 5), silence(good, -5, 5), silence(long[:6], math.MinInt, math.MaxInt)} {
		if !mute.Right(ss, nil) || !mute.Right(ss, inhibit(good, good)) {
			t.Error("is right: silence", i)
		}
	}
	for i, hs := range [][]api.Inhibit{nil, inhibit(nil, nil), inhibit(good, good, "a"), inhibit(long[:6], long[:6], six...)} {
		if !mute.Right(nil, hs) || !mute.Right(silence(good, 1, 2), hs) {
			t.Error("is right: inhibit", i)
		}
	}
	for i, ss := range [][]api.Silence{silence(good, 5, 4), silence(odd, 1, 2), silence(long, 1, 2), silence(eq("A", "x"), 1, 2), silence(good, math.MaxInt, math.MinInt)} {
		if mute.Right(ss, nil) {
			t.Error("isn't right: silence", i)
		}
	}
	for i, hs := range [][]api.Inhibit{inhibit(odd, good), inhibit(good, odd), inhibit(long, good), inhibit(good, long), inhibit(good, good, ""), inhibit(good, good, "a", "A"), inhibit(good, good, append(six, "f")...)} {
		if mute.Right(nil, hs) || mute.Right(silence(good, 1, 2), hs) {
			t.Error("isn't right: inhibit", i)
		}
	}
}

func TestSilenced(t *testing.T) {
	l := sets(t, `{a="x",b="1"}`)[0]
	for _, c := range []struct {
		t    int
		ss   []api.Silence
		want bool
	}{
		{10, nil, false},
		{10, []api.Silence{{Ms: eq("a", "x"), From: 10, To: 20}}, true},
		{9, []api.Silence{{Ms: eq("a", "x"), From: 10, To: 20}}, false},
		{19, []api.Silence{{Ms: eq("a", "x"), From: 10, To: 20}}, true},
		{20, []api.Silence{{Ms: eq("a", "x"), From: 10, To: 20}}, false},
		{10, []api.Silence{{Ms: eq("a", "x"), From: 10, To: 10}}, false},
		{10, []api.Silence{{Ms: eq("a", "y"), From: 0, To: 20}}, false},
		{10, []api.Silence{{Ms: eq("a", "y"), From: 0, To: 20}, {Ms: eq("b", "1"), From: 0, To: 20}}, true},
		{10, []api.Silence{{Ms: append(eq("a", "x"), eq("b", "2")...), From: 0, To: 20}}, false},
		{10, []api.Silence{{From: 0, To: 20}}, true},
		{-5, []api.Silence{{From: math.MinInt, To: math.MaxInt}}, true},
		{10, []api.Silence{{Ms: []api.Matcher{{Name: "a", Kind: 9}}, From: 0, To: 20}}, false},
	} {
		if got := mute.Silenced(l, c.t, c.ss...); got != c.want {
			t.Error("Silenced", c.t, c.ss, got)
		}
	}
}

func TestInhibited(t *testing.T) {
	run := sets(t, `{a="x"} {a="x",b="1"}`)
	h := api.Inhibit{Src: eq("b", "1"), Dst: eq("a", "x"), Equal: []string{"a"}}
	if !mute.Inhibited(run, 0, h) || mute.Inhibited(run, 1, h) {
		t.Error("the chapter's run")
	}
	for _, i := range []int{-1, 2, math.MinInt, math.MaxInt} {
		if mute.Inhibited(run, i, h) || mute.Inhibited(nil, i, h) {
			t.Error("no place", i)
		}
	}
	if mute.Inhibited(nil, 0, h) || mute.Inhibited(run, 0) {
		t.Error("of none")
	}
	for _, c := range []struct {
		all  string
		i    int
		h    api.Inhibit
		want bool
	}{
		// Both match both: each mutes the other, none itself.
		{`{a="x"} {a="x",b="1"}`, 0, api.Inhibit{Src: eq("a", "x"), Dst: eq("a", "x")}, true},
		{`{a="x"} {a="x",b="1"}`, 1, api.Inhibit{Src: eq("a", "x"), Dst: eq("a", "x")}, true},
		{`{a="x"}`, 0, api.Inhibit{}, false},
		{`{a="x"} {a="x"}`, 0, api.Inhibit{}, false},
		{`{a="x"} {a="x"}`, 1, api.Inhibit{}, false},
		{`{a="x"} {}`, 0, api.Inhibit{}, true},
		// Equal: of names that none has, too.
		{`{a="x"} {a="y",b="1"}`, 0, api.Inhibit{Src: eq("b", "1"), Dst: nil, Equal: []string{"a"}}, false},
		{`{a="x"} {a="y",b="1"}`, 0, api.Inhibit{Src: eq("b", "1"), Dst: nil, Equal: []string{"c"}}, true},
		{`{a="x"} {a="x",b="1"}`, 0, api.Inhibit{Src: eq("b", "1"), Dst: nil, Equal: []string{"a", "b"}}, false},
		{`{a="x",c="2"} {a="x",b="1",c="2"}`, 0, api.Inhibit{Src: eq("b", "1"), Dst: nil, Equal: []string{"c", "a"}}, true},
		{`{a="x"} {b="2"} {b="1"}`, 0, api.Inhibit{Src: eq("b", "1"), Dst: eq("a", "x")}, true},
		{`{b="1"} {a="x"}`, 1, api.Inhibit{Src: eq("b", "1"), Dst: eq("a", "x")}, true},
		{`{b="1"} {a="x"}`, 0, api.Inhibit{Src: eq("b", "1"), Dst: eq("a", "x")}, false},
		{`{a="x"} {b="2"}`, 0, api.Inhibit{Src: eq("b", "1"), Dst: eq("a", "x")}, false},
		{`{a="x"} {b="1"}`, 0, api.Inhibit{Src: eq("b", "1"), Dst: eq("a", "y")}, false},
		// The first other one of that source isn't equal, a later one is.
		{`{a="x"} {a="y",b="1"} {a="x",b="1"}`, 0, api.Inhibit{Src: eq("b", "1"), Dst: eq("b", ""), Equal: []string{"a"}}, true},
	} {
		if got := mute.Inhibited(sets(t, c.all), c.i, c.h); got != c.want {
			t.Error("Inhibited", c.all, c.i, c.h, got)
		}
		if got := mute.Inhibited(sets(t, c.all), c.i, api.Inhibit{Dst: eq("z", "z")}, c.h); got != c.want {
			t.Error("Inhibited by the second", c.all, c.i, c.h, got)
		}
	}
}

// spoil writes over all of l, the room behind it, too.
func spoil[T any](l []T, mark T) {
	l = l[:cap(l)]
	for i := range l {
		l[i] = mark
	}
}

func TestHeard(t *testing.T) {
	all := sets(t, `{c="1"} {a="x"} {a="x",b="1"} {b="1"} {}`)
	ss := []api.Silence{{Ms: eq("c", "1"), From: 10, To: 20}}
	hs := []api.Inhibit{{Src: eq("b", "1"), Dst: eq("a", "x"), Equal: []string{"a"}}}
	for _, c := range []struct {
		t    int
		ss   []api.Silence
		hs   []api.Inhibit
		want string
	}{
		{10, nil, nil, `{c="1"} {a="x"} {a="x",b="1"} {b="1"} {}`},
		{10, ss, nil, `{a="x"} {a="x",b="1"} {b="1"} {}`},
		{20, ss, nil, `{c="1"} {a="x"} {a="x",b="1"} {b="1"} {}`},
		{10, nil, hs, `{c="1"} {a="x",b="1"} {b="1"} {}`},
		{10, ss, hs, `{a="x",b="1"} {b="1"} {}`},
		// It doesn't matter whether the other one is muted itself.
		{10, []api.Silence{{Ms: eq("b", "1"), From: 0, To: 20}}, hs, `{c="1"} {}`},
		{10, []api.Silence{{From: 0, To: 20}}, hs, ``},
	} {
		if got := told(mute.Heard(all, c.t, c.ss, c.hs)); got != c.want {
			t.Error("Heard", c.t, c.ss, c.hs, got)
		}
	}
	if len(mute.Heard(nil, 0, ss, hs)) != 0 {
		t.Error("Heard of none")
	}
	got := mute.Heard(all, 5, ss, nil)
	for _, l := range got[:4] {
		spoil(l, api.Label{Name: "spoiled"})
	}
	got[0] = nil
	if told(all) != `{c="1"} {a="x"} {a="x",b="1"} {b="1"} {}` {
		t.Error("Heard shares memory", told(all))
	}
}

func TestAgainstWords(t *testing.T) {
	dice := rand.New(rand.NewSource(18))
	pool := sets(t, `{} {a="x"} {a="y"} {a="x",b="1"} {a="y",b="1"} {b="1"} {b="2",c="1"} {a="x",c="1"}`)
	ms := [][]api.Matcher{nil, eq("a", "x"), eq("b", "1"), eq("c", ""), eq("a", "")}
	for range 2000 {
		var all [][]api.Label
		for range dice.Intn(6) {
			all = append(all, pool[dice.Intn(len(pool))])
		}
		var ss []api.Silence
		for range dice.Intn(3) {
			ss = append(ss, api.Silence{Ms: ms[dice.Intn(5)], From: dice.Intn(9), To: dice.Intn(9)})
		}
		var hs []api.Inhibit
		for range dice.Intn(3) {
			hs = append(hs, api.Inhibit{Src: ms[dice.Intn(5)], Dst: ms[dice.Intn(5)], Equal: [][]string{nil, {"a"}, {"a", "c"}}[dice.Intn(3)]})
		}
		now := dice.Intn(9)
		var want [][]api.Label
		for _, l := range all {
			muted := false
			for _, s := range ss {
				muted = muted || match.All(l, s.Ms...) && s.From <= now && now < s.To
			}
			for _, h := range hs {
				for _, other := range all {
					equal := lset.Print(other) != lset.Print(l)
					for _, name := range h.Equal {
						equal = equal && lset.Get(l, name) == lset.Get(other, name)
					}
					muted = muted || equal && match.All(l, h.Dst...) && match.All(other, h.Src...)
				}
			}
			if !muted {
				want = append(want, l)
			}
		}
		if got := mute.Heard(all, now, ss, hs); fmt.Sprint(got) != fmt.Sprint(want) {
			t.Fatal(all, now, ss, hs, got, want)
		}
	}
}
