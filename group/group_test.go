package group_test

import (
	"fmt"
	"math"
	"math/rand"
	"slices"
	"strings"
	"testing"

	"klaxon/api"
	"klaxon/group"
)

func timing(wait, interval, repeat int) api.Timing {
	return api.Timing{Wait: wait, Interval: interval, Repeat: repeat}
}

func made(t *testing.T, wait, interval, repeat int) *group.Group {
	t.Helper()
	g := group.New(timing(wait, interval, repeat))
	if g == nil || !g.Idle() || g.Next() != -1 {
		t.Fatal("a new group is idle")
	}
	return g
}

// tick ticks, and tells what is told: "-" if nothing is.
func tick(g *group.Group, t int, alerts string) string {
	l, ok := g.Tick(t, strings.Fields(alerts)...)
	if !ok && len(l) == 0 {
		return "-"
	}
	return strings.Join(l, " ") + map[bool]string{true: "!", false: "?"}[ok]
}

func TestRight(t *testing.T) {
	for _, x := range []api.Timing{timing(0, 1, 1), timing(api.MaxSpan, api.MaxSpan, api.MaxSpan), timing(10, 5, 20)} {
		if !group.Right(x) || group.New(x) == nil {
			t.Error("is right", x)
		}
	}
	top := api.MaxSpan + 1
	for _, x := range []api.Timing{{}, timing(-1, 1, 1), timing(0, 0, 1), timing(0, 1, 0), timing(top, 1, 1), timing(0, top, 1), timing(0, 1, top), timing(0, -1, 1), timing(0, 1, -1), timing(math.MinInt, 1, 1), timing(0, math.MaxInt, 1)} {
		if group.Right(x) || group.New(x) != nil {
			t.Error("isn't right", x)
		}
	}
}

func TestRun(t *testing.T) {
	g := made(t, 10, 5, 20)
	for at := 0; at <= 50; at += 5 {
		alerts := "a"
		if at >= 35 {
			alerts = ""
		}
		want := map[int]string{10: "a!", 30: "a!", 35: "!"}[at]
		if want == "" {
			want = "-"
		}
		if got := tick(g, at, alerts); got != want || g.Idle() != (at >= 35) {
			t.Error(at, got, want, g.Idle())
		}
	}
}

func TestTick(t *testing.T) {
	type step struct {
		t            int
		alerts, want string
		next         int
	}
	for i, c := range []struct {
		timing api.Timing
		steps  []step
	}{
		{timing(0, 5, 20), []step{{0, "", "-", -1}, {3, "a", "a!", 8}, {7, "a b", "-", 8}, {8, "a b", "a b!", 13}, {13, "a b", "-", 18}, {27, "a b", "-", 32}, {31, "a b", "-", 32}, {32, "a b", "a b!", 37}}},
		// Exactly Repeat ago: told again.
		{timing(0, 5, 20), []step{{0, "a", "a!", 5}, {19, "a", "-", 24}, {24, "a", "a!", 29}}},
		{timing(0, 5, 20), []step{{0, "a", "a!", 5}, {20, "a", "a!", 25}}},
		{timing(0, 5, 5), []step{{0, "a", "a!", 5}, {5, "a", "a!", 10}, {9, "a", "-", 10}}},
		{timing(0, 5, 1), []step{{0, "a", "a!", 5}, {1, "a", "-", 5}, {6, "a", "a!", 11}}},
		// Gone ahead of its first look: nothing was told, nothing is.
		{timing(10, 5, 20), []step{{0, "a", "-", 10}, {5, "", "-", 10}, {9, "b", "-", 10}, {10, "", "-", -1}, {11, "a", "-", 21}, {21, "a", "a!", 26}}},
		{timing(10, 5, 20), []step{{0, "a", "-", 10}, {5, "", "-", 10}, {12, "b", "b!", 17}}},
		// Gone between looks, back at the next: they are the same.
		{timing(0, 5, 20), []step{{0, "a", "a!", 5}, {2, "", "-", 5}, {5, "a", "-", 10}, {7, "b", "-", 10}, {10, "", "!", -1}, {11, "", "-", -1}, {12, "a", "a!", 17}}},
		{timing(0, 5, 20), []step{{0, "a b", "a b!", 5}, {5, "a", "a!", 10}, {10, "b", "b!", 15}, {15, "b", "-", 20}, {20, "a b", "a b!", 25}, {25, "", "!", -1}, {26, "", "-", -1}}},
		{timing(0, 1, 1), []step{{0, "a", "a!", 1}, {1, "", "!", -1}, {2, "", "-", -1}, {3, "a", "a!", 4}}},
		{timing(5, 100, 20), []step{{7, "a", "-", 12}, {100, "a", "a!", 200}, {150, "a b", "-", 200}, {199, "", "-", 200}, {200, "a b", "a b!", 300}, {300, "", "!", -1}}},
		{timing(10, 5, 20), []step{{math.MaxInt - 12, "a", "-", math.MaxInt - 2}, {math.MaxInt - 2, "a", "a!", math.MaxInt}}},
		{timing(10, 5, 20), []step{{math.MaxInt - 5, "a", "-", math.MaxInt}, {math.MaxInt, "a", "-", math.MaxInt}}},
	} {
		g := made(t, c.timing.Wait, c.timing.Interval, c.timing.Repeat)
		for _, s := range c.steps {
			if got := tick(g, s.t, s.alerts); got != s.want || g.Next() != s.next || g.Idle() != (s.next == -1) {
				t.Error(i, s, got, g.Next(), g.Idle())
			}
		}
	}
}

// said is the chapter's words, with all that was told kept.
type said struct {
	timing      api.Timing
	begun       bool
	next, count int
	last        string
	lastAt      int
}

func (s *said) tick(t int, alerts string) string {
	if !s.begun {
		if alerts == "" {
			return "-"
		}
		*s = said{timing: s.timing, begun: true, next: t + s.timing.Wait}
	}
	if t < s.next {
		return "-"
	}
	s.next = t + s.timing.Interval
	if alerts == "" {
		s.begun = false
		if s.count > 0 {
			return "!"
		}
		return "-"
	}
	if s.count == 0 || alerts != s.last || t-s.lastAt >= s.timing.Repeat {
		s.count, s.last, s.lastAt = s.count+1, alerts, t
		return alerts + "!"
	}
	return "-"
}

func TestAgainstWords(t *testing.T) {
	dice := rand.New(rand.NewSource(20))
	for range 1000 {
		tm := timing(dice.Intn(12), 1+dice.Intn(9), 1+dice.Intn(25))
		g, s := made(t, tm.Wait, tm.Interval, tm.Repeat), &said{timing: tm}
		alerts, began, lastTold, last := "", -1, -1, ""
		for at := 0; at < 100; at += 1 + dice.Intn(6) {
			if dice.Intn(3) == 0 {
				alerts = []string{"", "a", "a b", "b"}[dice.Intn(4)]
			}
			if g.Idle() && alerts != "" {
				began, last = at, ""
			}
			got, want := tick(g, at, alerts), s.tick(at, alerts)
			next := s.next
			if !s.begun {
				next = -1
			}
			if got != want || g.Idle() == s.begun || g.Next() != next {
				t.Fatal(tm, at, alerts, got, want, g.Next(), next)
			}
			if got == "-" {
				continue
			}
			if at < began+tm.Wait {
				t.Fatal("told ahead of Wait", tm, at, began)
			}
			if got == last && got != "!" && at < lastTold+tm.Repeat {
				t.Fatal("told sooner than Repeat", tm, at, lastTold)
			}
			lastTold, last = at, got
		}
	}
}

func TestCopy(t *testing.T) {
	g := made(t, 5, 5, 20)
	idle := g.Copy()
	g.Tick(0, "a")
	if !idle.Idle() || g.Idle() {
		t.Error("copies touch")
	}
	waiting := g.Copy()
	if got := tick(g, 5, "a"); got != "a!" {
		t.Error(got)
	}
	if waiting.Next() != 5 || waiting.Idle() {
		t.Error("copies touch", waiting.Next())
	}
	if got := tick(waiting, 6, ""); got != "-" || !waiting.Idle() {
		t.Error("a copy that was told nothing", got)
	}
	told := g.Copy()
	if got := tick(g, 10, "b"); got != "b!" {
		t.Error(got)
	}
	if got := tick(told, 10, "a"); got != "-" || told.Next() != 15 {
		t.Error("a copy was told the same", got)
	}
	if got := tick(told, 25, "a"); got != "a!" {
		t.Error("a copy repeats", got)
	}
	if got := tick(told.Copy(), 30, ""); got != "!" || told.Idle() {
		t.Error("a copy ends", got)
	}
}

// spoil writes over all of l, the room behind it, too.
func spoil[T any](l []T, mark T) {
	l = l[:cap(l)]
	for i := range l {
		l[i] = mark
	}
}

func TestMemory(t *testing.T) {
	g := made(t, 0, 5, 20)
	given := []string{"a", "b", "more"}
	got, _ := g.Tick(0, given[:2]...)
	spoil(got, "spoiled")
	if fmt.Sprint(given) != "[a b more]" {
		t.Error("what was handed in was changed")
	}
	other := g.Copy()
	given[0] = "z"
	if got := tick(g, 5, "a b"); got != "-" {
		t.Error("what was handed in, or told, is kept", got)
	}
	if got := tick(other, 5, "a b"); got != "-" {
		t.Error("copies share memory", got)
	}
	if !slices.Equal(given, []string{"z", "b", "more"}) {
		t.Error("what was handed in was changed")
	}
}

func TestAnyNumbers(t *testing.T) {
	ns := []int{math.MinInt, -1, 0, 5, math.MaxInt}
	for _, a := range ns {
		for _, b := range ns {
			g := made(t, 5, 5, 5)
			g.Tick(a, "b", "a")
			g.Tick(b)
			g.Tick(a, "a")
			g.Next()
		}
	}
}
