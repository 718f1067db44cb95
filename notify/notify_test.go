package notify_test

import (
	"fmt"
	"math"
	"math/rand"
	"slices"
	"sort"
	"strings"
	"testing"

	"klaxon/api"
	"klaxon/group"
	"klaxon/lset"
	"klaxon/mute"
	"klaxon/notify"
	"klaxon/route"
)

func eq(name, value string) []api.Matcher {
	return []api.Matcher{{Name: name, Value: value, Kind: api.MEq}}
}

// sets makes label sets of their prints, blanks between.
func sets(t *testing.T, s string) [][]api.Label {
	t.Helper()
	var all [][]api.Label
	for _, text := range strings.Fields(s) {
		l, ok := lset.Parse(text)
		if !ok {
			t.Fatal("not a set:", text)
		}
		all = append(all, l)
	}
	return all
}

// told is notes as a text.
func told(l []api.Note) string {
	var words []string
	for _, n := range l {
		words = append(words, n.To+n.Group+strings.Join(n.Alerts, "+"))
	}
	return strings.Join(words, " ")
}

// simple is a setup of one receiver, r, and no waits.
func simple() notify.Setup {
	return notify.Setup{Tree: api.Route{To: "r"}, Timing: api.Timing{Wait: 0, Interval: 1, Repeat: 1000}, Room: 8, Tries: 2}
}

func made(t *testing.T, s notify.Setup) *notify.Notifier {
	t.Helper()
	n := notify.New(s)
	if n == nil || len(n.Waiting()) != 0 || n.Dropped() != 0 || n.Failed() != 0 || n.Groups() != 0 {
		t.Fatal("a new notifier has nothing")
	}
	return n
}

func TestNew(t *testing.T) {
	for i, spoil := range []func(s *notify.Setup){
		func(s *notify.Setup) {}, func(s *notify.Setup) { s.Tries = 0 }, func(s *notify.Setup) { s.Tries = 100 }, func(s *notify.Setup) { s.Room = math.MinInt }, func(s *notify.Setup) { s.Room = math.MaxInt }, func(s *notify.Setup) { s.By = []string{"", "A", "a", "a"} },
	} {
		s := simple()
		spoil(&s)
		if notify.New(s) == nil {
			t.Error("may be", i)
		}
	}
	for i, spoil := range []func(s *notify.Setup){
		func(s *notify.Setup) { *s = notify.Setup{} }, func(s *notify.Setup) { s.Tries = -1 }, func(s *notify.Setup) { s.Tries = 101 }, func(s *notify.Setup) { s.Tries = math.MaxInt }, func(s *notify.Setup) { s.Tree.To = "" }, func(s *notify.Setup) { s.Tree.Ms = eq("a", "x") }, func(s *notify.Setup) { s.Tree.Kids = []api.Route{{}} },
		func(s *notify.Setup) { s.Timing.Interval = 0 }, func(s *notify.Setup) { s.Timing.Wait = -1 }, func(s *notify.Setup) { s.Timing.Repeat = api.MaxSpan + 1 },
	} {
		s := simple()
		spoil(&s)
		if notify.New(s) != nil {
			t.Error("may not be", i)
		}
	}
}

func TestRun(t *testing.T) {
	n := made(t, simple())
	if got := told(n.Tick(0, sets(t, `{a="x"}`), nil, nil, false, true)); got != `r{}{a="x"}` {
		t.Error(got)
	}
	if len(n.Waiting()) != 0 || n.Groups() != 1 || n.Failed() != 0 || n.Dropped() != 0 {
		t.Error("sent, and waits no more")
	}
	if got := told(n.Tick(1, sets(t, `{a="x"}`), nil, nil, true)); got != "" {
		t.Error("once", got)
	}
	if got := told(n.Tick(2, nil, nil, nil, true)); got != `r{}` || n.Groups() != 0 {
		t.Error("none are told", got)
	}
	if got := told(n.Tick(3, nil, nil, nil, true)); got != "" {
		t.Error("idle", got)
	}
}

func TestTries(t *testing.T) {
	for tries, want := range map[int]string{0: "F....", 1: ".F...", 2: "..F..", 4: "....F"} {
		s := simple()
		s.Tries = tries
		n := made(t, s)
		n.Tick(0, sets(t, `{a="x"}`), nil, nil)
		got := ""
		for i := range 5 {
			before := n.Failed()
			if sent := n.Tick(i+1, sets(t, `{a="x"}`), nil, nil, false); len(sent) != 0 {
				t.Error("sent", sent)
			}
			got += []string{".", "F"}[n.Failed()-before]
			if (n.Failed() == 1) != (len(n.Waiting()) == 0) {
				t.Error("what failed waits no more", tries, i)
			}
		}
		if got != want {
			t.Error("tries", tries, got)
		}
	}
	// A send fails twice: it is sent the third time. The next one's tries begin.
	s := simple()
	s.By = []string{"a"}
	n := made(t, s)
	if got := told(n.Tick(0, sets(t, `{a="1"} {a="2"} {a="3"}`), nil, nil, false, false, true, false, false, false, true, true, true)); got != `r{a="1"}{a="1"} r{a="3"}{a="3"}` || n.Failed() != 1 || len(n.Waiting()) != 0 {
		t.Error(got, n.Failed())
	}
	// Fails from tick to tick are added up; of none that waits no try is made.
	n = made(t, s)
	n.Tick(0, nil, nil, nil, false, false, false, false)
	n.Tick(1, sets(t, `{a="1"}`), nil, nil, false)
	n.Tick(2, sets(t, `{a="1"}`), nil, nil, false)
	if len(n.Waiting()) != 1 || n.Failed() != 0 {
		t.Error("two fails", n.Failed())
	}
	n.Tick(3, sets(t, `{a="1"}`), nil, nil, false)
	if len(n.Waiting()) != 0 || n.Failed() != 1 {
		t.Error("three fails", n.Failed())
	}
}

func TestDropped(t *testing.T) {
	s := simple()
	s.By, s.Room, s.Tries = []string{"a"}, 2, 2
	n := made(t, s)
	n.Tick(0, sets(t, `{a="1"} {a="2"} {a="3"}`), nil, nil)
	if got := told(n.Waiting()); got != `r{a="2"}{a="2"} r{a="3"}{a="3"}` || n.Dropped() != 1 {
		t.Error(got, n.Dropped())
	}
	// The first one failed twice, and is dropped: the next one's tries begin.
	n.Tick(1, sets(t, `{a="1"} {a="2"} {a="3"}`), nil, nil, false, false)
	n.Tick(2, sets(t, `{a="1"} {a="2"} {a="3"} {a="4"}`), nil, nil, false, false)
	if got := told(n.Waiting()); got != `r{a="3"}{a="3"} r{a="4"}{a="4"}` || n.Dropped() != 2 || n.Failed() != 0 {
		t.Error(got, n.Dropped(), n.Failed())
	}
	// Put without a drop: the first one's tries go on.
	n = made(t, s)
	n.Tick(0, sets(t, `{a="1"}`), nil, nil, false, false)
	n.Tick(1, sets(t, `{a="1"} {a="2"}`), nil, nil, false)
	if got := told(n.Waiting()); got != `r{a="2"}{a="2"}` || n.Dropped() != 0 || n.Failed() != 1 {
		t.Error(got, n.Dropped(), n.Failed())
	}
}

func TestGroups(t *testing.T) {
	s := simple()
	s.By = []string{"c", "a"}
	s.Tree.Kids = []api.Route{{Ms: eq("b", "1"), To: "b", Goes: true}, {Ms: eq("b", "1"), To: "b", Goes: true}, {Ms: eq("a", "x"), To: "ax"}}
	n := made(t, s)
	firing := sets(t, `{c="1"} {b="2",c="1"} {a="x"} {a="x",b="1"} {b="1",c="1"} {b="1"} {} {a="x",b="2"}`)
	got := n.Tick(0, firing, nil, nil, true, true, true, true, true, true, true, true)
	want := []string{`ax{a="x"}{a="x",b="1"}+{a="x",b="2"}+{a="x"}`, `b{a="x"}{a="x",b="1"}`, `b{c="1"}{b="1",c="1"}`, `b{}{b="1"}`, `r{c="1"}{b="2",c="1"}+{c="1"}`, `r{}{}`}
	if told(got) != strings.Join(want, " ") || n.Groups() != 6 {
		t.Error(told(got), n.Groups())
	}
	// Of each group, by itself: what it tells.
	got = n.Tick(1, sets(t, `{a="x",b="1"} {a="x"}`), nil, nil, true, true, true, true, true, true, true)
	if told(got) != `ax{a="x"}{a="x",b="1"}+{a="x"} b{c="1"} b{} r{c="1"} r{}` || n.Groups() != 2 {
		t.Error(told(got), n.Groups())
	}
}

func TestTiming(t *testing.T) {
	s := simple()
	s.Timing = api.Timing{Wait: 10, Interval: 5, Repeat: 20}
	n := made(t, s)
	got := ""
	for at := 0; at <= 40; at += 5 {
		firing := sets(t, `{a="x"}`)
		if at == 35 || at == 40 {
			firing = nil
		}
		got += fmt.Sprint(at, ":", told(n.Tick(at, firing, nil, nil, true)), ":", n.Groups(), " ")
	}
	if got != `0::1 5::1 10:r{}{a="x"}:1 15::1 20::1 25::1 30:r{}{a="x"}:1 35:r{}:0 40::0 ` {
		t.Error(got)
	}
	// Each group has its own wait.
	s.By = []string{"a"}
	n = made(t, s)
	n.Tick(0, sets(t, `{a="1"}`), nil, nil)
	n.Tick(5, sets(t, `{a="1"} {a="2"}`), nil, nil)
	n.Tick(10, sets(t, `{a="1"} {a="2"}`), nil, nil)
	if got := told(n.Waiting()); got != `r{a="1"}{a="1"}` {
		t.Error(got)
	}
	n.Tick(15, sets(t, `{a="2"}`), nil, nil)
	if got := told(n.Waiting()); got != `r{a="1"}{a="1"} r{a="1"} r{a="2"}{a="2"}` || n.Groups() != 1 {
		t.Error(got)
	}
}

func TestMuted(t *testing.T) {
	s := simple()
	n := made(t, s)
	ss := []api.Silence{{Ms: eq("a", "x"), From: 0, To: 10}}
	hs := []api.Inhibit{{Src: eq("b", "1"), Dst: eq("c", "1")}}
	firing := sets(t, `{a="x"} {b="1"} {c="1"}`)
	if got := told(n.Tick(0, firing, ss, hs, true)); got != `r{}{b="1"}` {
		t.Error(got)
	}
	// A silence ends: the alert is told at the next look.
	if got := told(n.Tick(9, firing, ss, nil, true)); got != `r{}{b="1"}+{c="1"}` {
		t.Error(got)
	}
	if got := told(n.Tick(10, firing, ss, hs, true)); got != `r{}{a="x"}+{b="1"}` {
		t.Error(got)
	}
	if got := told(n.Tick(11, firing, []api.Silence{{From: 0, To: 99}}, hs, true)); got != `r{}` || n.Groups() != 0 {
		t.Error(got)
	}
}

// model is the chapter's words, over lists.
type model struct {
	setup   notify.Setup
	groups  map[[2]string]*group.Group
	box     []api.Note
	fails   []int
	dropped int
	failed  int
}

func (m *model) tick(t int, firing [][]api.Label, ss []api.Silence, oks []bool) (sent []api.Note) {
	alerts := map[[2]string][]string{}
	for _, set := range mute.Heard(firing, t, ss, nil) {
		tos := route.To(m.setup.Tree, set)
		sort.Strings(tos)
		for _, to := range slices.Compact(tos) {
			key := [2]string{to, lset.Print(lset.Keep(set, m.setup.By...))}
			alerts[key] = append(alerts[key], lset.Print(set))
			if m.groups[key] == nil {
				m.groups[key] = group.New(m.setup.Timing)
			}
		}
	}
	var keys [][2]string
	for key := range m.groups {
		keys = append(keys, key)
	}
	sort.Slice(keys, func(i, j int) bool {
		return keys[i][0] < keys[j][0] || keys[i][0] == keys[j][0] && keys[i][1] < keys[j][1]
	})
	for _, key := range keys {
		sort.Strings(alerts[key])
		if told, ok := m.groups[key].Tick(t, alerts[key]...); ok {
			m.box, m.fails = append(m.box, api.Note{To: key[0], Group: key[1], Alerts: told}), append(m.fails, 0)
			if len(m.box) > m.setup.Room {
				m.box, m.fails = m.box[1:], m.fails[1:]
				m.dropped++
			}
		}
	}
	for _, ok := range oks {
		switch {
		case len(m.box) == 0:
		case ok:
			sent = append(sent, m.box[0])
			m.box, m.fails = m.box[1:], m.fails[1:]
		case m.fails[0] < m.setup.Tries:
			m.fails[0]++
		default:
			m.box, m.fails = m.box[1:], m.fails[1:]
			m.failed++
		}
	}
	return sent
}

func TestAgainstWords(t *testing.T) {
	dice := rand.New(rand.NewSource(21))
	pool := sets(t, `{} {a="x"} {a="y"} {a="x",b="1"} {a="y",b="1"} {b="1"} {b="2",c="1"}`)
	for range 300 {
		s := simple()
		s.By = [][]string{nil, {"a"}, {"b", "a"}}[dice.Intn(3)]
		s.Room, s.Tries = 1+dice.Intn(8), dice.Intn(4)
		s.Timing = api.Timing{Wait: dice.Intn(8), Interval: 1 + dice.Intn(8), Repeat: 1 + dice.Intn(20)}
		s.Tree.Kids = []api.Route{{Ms: eq("b", "1"), To: "b", Goes: dice.Intn(2) == 0}, {Ms: eq("a", "x"), To: "a"}}
		n, m := made(t, s), &model{setup: s, groups: map[[2]string]*group.Group{}}
		var firing [][]api.Label
		for at := 0; at < 100; at += 1 + dice.Intn(5) {
			if dice.Intn(3) == 0 {
				firing = nil
				for _, i := range dice.Perm(len(pool))[:dice.Intn(len(pool))] {
					firing = append(firing, pool[i])
				}
			}
			ss := []api.Silence{{Ms: eq("a", "x"), From: 30, To: 50}}
			oks := make([]bool, dice.Intn(4))
			for i := range oks {
				oks[i] = dice.Intn(2) == 0
			}
			got, want := n.Tick(at, firing, ss, nil, oks...), m.tick(at, firing, ss, oks)
			active := 0
			for _, g := range m.groups {
				if !g.Idle() {
					active++
				}
			}
			if fmt.Sprintf("%q", got) != fmt.Sprintf("%q", want) && len(got)+len(want) > 0 || told(n.Waiting()) != told(m.box) || n.Dropped() != m.dropped || n.Failed() != m.failed || n.Groups() != active {
				t.Fatal(at, told(got), "want", told(want), "waiting", told(n.Waiting()), told(m.box), n.Dropped(), m.dropped, n.Failed(), m.failed, n.Groups(), active)
			}
		}
	}
}

func TestMemory(t *testing.T) {
	s := simple()
	s.By = []string{"a", "b"}
	s.Tree.Kids = []api.Route{{Ms: eq("a", "x"), To: "x", Kids: []api.Route{{Ms: eq("b", "1"), To: "xb"}}}}
	n := made(t, s)
	s.By[0] = "spoiled"
	s.Tree.Kids[0].Ms[0].Value = "spoiled"
	s.Tree.Kids[0].Kids[0].To = "spoiled"
	s.Tree.Kids[0].To = "spoiled"
	firing := sets(t, `{a="x",b="1"} {a="x"} {a="y"}`)
	oks := []bool{true, false, true}
	got := n.Tick(0, firing[:2], nil, nil, oks[:1]...)
	if told(got) != `x{a="x"}{a="x"}` {
		t.Error("what was handed in is kept", told(got))
	}
	got[0].Alerts[0] = "spoiled"
	waiting := n.Waiting()
	waiting[0].Alerts[0] = "spoiled"
	firing[0][0].Value = "z"
	if got := told(n.Waiting()); got != `xb{a="x",b="1"}{a="x",b="1"}` {
		t.Error("an answer shares memory", got)
	}
	if lset.Print(firing[2]) != `{a="y"}` || !slices.Equal(oks, []bool{true, false, true}) {
		t.Error("what was handed in was changed")
	}
	mixed := sets(t, `{b="1"} {} {a="y"} {a="x"}`)
	n.Tick(1, mixed, nil, nil)
	if fmt.Sprint(mixed) != "[[{b 1}] [] [{a y}] [{a x}]]" {
		t.Error("what was handed in was changed", mixed)
	}
	for _, at := range []int{math.MinInt, -1, math.MaxInt} {
		n.Tick(at, firing, []api.Silence{{}}, []api.Inhibit{{}}, oks...)
		n.Tick(at, [][]api.Label{nil, {{Name: "A"}}, {{}}}, nil, nil, false)
	}
}
