package store_test

import (
	"fmt"
	"math"
	"slices"
	"strconv"
	"strings"
	"testing"

	"klaxon/api"
	"klaxon/lset"
	"klaxon/store"
)

// set makes labels of names and values.
func set(words ...string) []api.Label {
	var l []api.Label
	for i := 0; i < len(words); i += 2 {
		l = append(l, api.Label{Name: words[i], Value: words[i+1]})
	}
	return l
}

func sample(t, v int) api.Sample { return api.Sample{Time: t, Value: v} }

func put(t *testing.T, s *store.Store, l []api.Label, at, value int) {
	t.Helper()
	if err := s.Put(l, sample(at, value)); err != api.OK {
		t.Fatal("Put", l, at, err)
	}
}

// sets is the texts of all sets of s.
func sets(s *store.Store) string {
	var texts []string
	for _, l := range s.Sets() {
		texts = append(texts, lset.Print(l))
	}
	return strings.Join(texts, " ")
}

// all tells all that is in s.
func all(s *store.Store) string {
	text := ""
	for _, l := range s.Sets() {
		text += fmt.Sprint(lset.Print(l), s.Samples(l), ";")
	}
	return text
}

// told is points as text.
func told(l []api.Point) string {
	text := ""
	for _, p := range l {
		text += lset.Print(p.Set) + ":" + strconv.Itoa(p.Value) + " "
	}
	return text
}

func full(t *testing.T) *store.Store {
	s := store.New()
	for i := range api.MaxSeries {
		put(t, s, set("a", "x"+strconv.Itoa(i)), 10, i)
	}
	return s
}

func TestNew(t *testing.T) {
	s := store.New()
	if len(s.Sets()) != 0 || len(s.Samples(nil)) != 0 || len(s.Samples(set("a", "x"))) != 0 || len(s.Pick(10, 10)) != 0 || len(s.Changes(5, 0, 99)) != 0 || s.Cut(99) != 0 || len(s.Copy().Sets()) != 0 {
		t.Error("a new store has no series")
	}
}

func TestSets(t *testing.T) {
	s := store.New()
	for i, l := range [][]api.Label{set("b", "1"), nil, set("a", "x"), set("a", "x", "b", "1"), set("a", `"`), set("a", "[")} {
		put(t, s, l, i, i)
	}
	if got, want := sets(s), `{a="["} {a="\""} {a="x",b="1"} {a="x"} {b="1"} {}`; got != want {
		t.Errorf("Sets %s, want %s", got, want)
	}
	put(t, s, nil, 50, 5)
	if got := s.Samples(nil); !slices.Equal(got, []api.Sample{sample(1, 1), sample(50, 5)}) {
		t.Error("Samples", got)
	}
	if len(s.Samples(set("a", "none"))) != 0 || len(s.Samples(set("b", "1", "a", "2"))) != 0 || len(s.Samples(set("a", ""))) != 0 {
		t.Error("Samples of no series")
	}
}

func TestPut(t *testing.T) {
	for _, c := range []struct {
		l    []api.Label
		x    api.Sample
		want api.Errno
	}{
		{set("b", "1", "a", "2"), sample(20, 1), api.ErrForm},
		{set("a", ""), sample(20, 1), api.ErrForm},
		{set("a", "new"), sample(-1, 1), api.ErrForm},
		{set("a", "new"), sample(api.MaxTime+1, 1), api.ErrForm},
		{set("a", "x0"), sample(-1, 1), api.ErrForm},
		{set("a", "x0"), sample(math.MaxInt, 1), api.ErrForm},
		{set("a", "new"), sample(20, 1), api.ErrFull},
		{set("a", "x0"), sample(10, 1), api.ErrOrder},
		{set("a", "x0"), sample(9, 1), api.ErrOrder},
		{set("a", "x31"), sample(api.MaxTime, 1), api.OK},
		{set("a", "x0"), sample(11, 1), api.OK},
	} {
		s := full(t)
		before := all(s)
		if got := s.Put(c.l, c.x); got != c.want {
			t.Error("Put", c.l, c.x, got)
		}
		if (all(s) == before) != (c.want != api.OK) {
			t.Error("a refused call changes nothing, a taken one does", c.l, c.x)
		}
	}
	s := store.New()
	for i := range api.MaxSamples {
		put(t, s, nil, i, i)
	}
	if got := s.Put(nil, sample(500, 1)); got != api.ErrFull || len(s.Samples(nil)) != api.MaxSamples {
		t.Error("a full series", got)
	}
	if got := s.Put(nil, sample(3, 1)); got != api.ErrOrder {
		t.Error("a full series, an old time", got)
	}
	put(t, s, set("a", "x"), 0, 0)
}

func TestPick(t *testing.T) {
	s := store.New()
	put(t, s, set("a", "x"), 10, 5)
	put(t, s, nil, 12, 1)
	put(t, s, set("a", "y"), 1, 9)
	put(t, s, set("a", "xx"), 11, 7)
	has := api.Matcher{Name: "a", Value: "x", Kind: api.MHas}
	for _, c := range []struct {
		t, look int
		ms      []api.Matcher
		want    string
	}{
		{12, 5, nil, `{a="x"}:5 {a="xx"}:7 {}:1 `},
		{12, 5, []api.Matcher{has}, `{a="x"}:5 {a="xx"}:7 `},
		{12, 12, nil, `{a="x"}:5 {a="xx"}:7 {a="y"}:9 {}:1 `},
		{11, 5, nil, `{a="x"}:5 {a="xx"}:7 `},
		{15, 5, []api.Matcher{has}, `{a="xx"}:7 `},
		{16, 5, []api.Matcher{has}, ``},
		{16, 5, nil, `{}:1 `},
		{12, 5, []api.Matcher{has, {Name: "a", Value: "x", Kind: api.MNe}}, `{a="xx"}:7 `},
		{12, 5, []api.Matcher{{Name: "a", Value: "", Kind: api.MEq}}, `{}:1 `},
		{12, 5, []api.Matcher{{Name: "a", Value: "", Kind: 9}}, ``},
		{0, 50, nil, ``},
	} {
		if got := told(s.Pick(c.t, c.look, c.ms...)); got != c.want {
			t.Error("Pick", c.t, c.look, c.ms, got)
		}
	}
	for _, n := range []int{math.MinInt, math.MaxInt} {
		s.Pick(n, n)
		s.Pick(0, n)
		s.Changes(n, n, n)
	}
}

func TestChanges(t *testing.T) {
	s := store.New()
	put(t, s, set("a", "x"), 10, 5)
	put(t, s, nil, 12, 1)
	if got := s.Changes(5, 0, 99); !slices.Equal(got, []int{10, 12, 15, 17}) {
		t.Error(got)
	}
	put(t, s, set("a", "y"), 15, 9)
	put(t, s, set("a", "y"), 17, 9)
	if got := s.Changes(5, 0, 99); !slices.Equal(got, []int{10, 12, 15, 17, 22}) {
		t.Error("each once", got)
	}
	if got := s.Changes(5, 12, 17); !slices.Equal(got, []int{12, 15, 17}) {
		t.Error("from, to", got)
	}
	if got := s.Changes(5, 0, 99, api.Matcher{Name: "a", Value: "", Kind: api.MNe}); !slices.Equal(got, []int{10, 15, 17, 22}) {
		t.Error("matched", got)
	}
	if got := s.Changes(5, 0, 99, api.Matcher{Name: "b", Value: "", Kind: api.MNe}); len(got) != 0 {
		t.Error("of no series", got)
	}
}

func TestCut(t *testing.T) {
	s := store.New()
	put(t, s, set("a", "x"), 10, 1)
	put(t, s, set("a", "x"), 20, 2)
	put(t, s, nil, 10, 3)
	put(t, s, set("b", "1"), 30, 4)
	if got := s.Cut(10); got != 0 || sets(s) != `{a="x"} {b="1"} {}` {
		t.Error("Cut of nothing", got, sets(s))
	}
	if got := s.Cut(11); got != 2 || all(s) != `{a="x"}[{20 2}];{b="1"}[{30 4}];` {
		t.Error("Cut", got, all(s))
	}
	if len(s.Samples(nil)) != 0 {
		t.Error("a series without samples is gone")
	}
	put(t, s, nil, 0, 0)
	if got := s.Cut(math.MaxInt); got != 3 || len(s.Sets()) != 0 {
		t.Error("Cut of all", got)
	}
	many := full(t)
	many.Cut(11)
	for i := range api.MaxSeries {
		put(t, many, set("b", strconv.Itoa(i)), 1, 1)
	}
}

func TestCopy(t *testing.T) {
	s := store.New()
	for i := range 5 {
		put(t, s, set("a", "x"), i, i)
		put(t, s, set("b", "x"), i, i)
	}
	c := s.Copy()
	was := all(s)
	if all(c) != was {
		t.Fatal("a copy is the same", all(c))
	}
	put(t, s, set("a", "x"), 10, 10)
	put(t, s, set("a", "a"), 10, 10)
	if all(c) != was {
		t.Error("what is put into the one is in the other", all(c))
	}
	d := c.Copy()
	put(t, c, set("a", "x"), 11, 11)
	put(t, d, set("a", "x"), 12, 12)
	c.Cut(3)
	if all(d) != `{a="x"}[{0 0} {1 1} {2 2} {3 3} {4 4} {12 12}];{b="x"}[{0 0} {1 1} {2 2} {3 3} {4 4}];` {
		t.Error("copies touch", all(d))
	}
	if all(c) != `{a="x"}[{3 3} {4 4} {11 11}];{b="x"}[{3 3} {4 4}];` {
		t.Error("copies touch", all(c))
	}
	d.Cut(99)
	if all(s) != `{a="a"}[{10 10}];{a="x"}[{0 0} {1 1} {2 2} {3 3} {4 4} {10 10}];{b="x"}[{0 0} {1 1} {2 2} {3 3} {4 4}];` {
		t.Error("copies touch", all(s))
	}
}

// spoil writes over all of l, the room behind it, too.
func spoil[T any](l []T, mark T) {
	l = l[:cap(l)]
	for i := range l {
		l[i] = mark
	}
}

func TestMemory(t *testing.T) {
	s := store.New()
	l := append(set("a", "x", "b", "y"), api.Label{Name: "c", Value: "z"})
	given := l[:2]
	put(t, s, given, 10, 1)
	put(t, s, given, 11, 1)
	if lset.Print(l) != `{a="x",b="y",c="z"}` {
		t.Error("what was handed in was changed")
	}
	given[0].Value = "spoiled"
	was := `{a="x",b="y"}[{10 1} {11 1}];`
	if all(s) != was {
		t.Fatal("what was handed in is kept", all(s))
	}
	mark := api.Label{Name: "spoiled"}
	for _, got := range s.Sets() {
		spoil(got, mark)
	}
	for _, p := range s.Pick(11, 5) {
		spoil(p.Set, mark)
	}
	spoil(s.Samples(set("a", "x", "b", "y")), sample(7, 7))
	spoil(s.Changes(5, 0, 99), 7)
	c := s.Copy()
	spoil(c.Sets()[0], mark)
	spoil(c.Samples(set("a", "x", "b", "y")), sample(7, 7))
	if all(s) != was || all(c) != was {
		t.Error("an answer shares memory", all(s))
	}
	ms := []api.Matcher{{Name: "a", Value: "x", Kind: api.MEq}, {Name: "b", Value: "y", Kind: api.MEq}}
	s.Pick(11, 5, ms[:1]...)
	s.Changes(5, 0, 99, ms[:1]...)
	if ms[1].Name != "b" {
		t.Error("matchers were changed")
	}
}
