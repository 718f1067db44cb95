package route_test

import (
	"fmt"
	"math/rand"
	"slices"
	"strconv"
	"strings"
	"testing"

	"klaxon/api"
	"klaxon/lset"
	"klaxon/match"
	"klaxon/route"
)

// leaf is a route of one matcher, name=value; "" of none.
func leaf(label, to string, kids ...api.Route) api.Route {
	r := api.Route{To: to, Kids: kids}
	if name, value, ok := strings.Cut(label, "="); ok {
		r.Ms = []api.Matcher{{Name: name, Value: value, Kind: api.MEq}}
	}
	return r
}

// goes is r that goes on.
func goes(r api.Route) api.Route {
	r.Goes = true
	return r
}

func set(t *testing.T, s string) []api.Label {
	t.Helper()
	l, ok := lset.Parse(s)
	if !ok {
		t.Fatal("not a set:", s)
	}
	return l
}

// chain is a tree of so many, each the kid of the one ahead.
func chain(n int) api.Route {
	r := leaf("", "last")
	for range n - 1 {
		r = leaf("", "r", r)
	}
	return r
}

func wide(n int) api.Route {
	return leaf("", "all", slices.Repeat([]api.Route{leaf("a=x", "x")}, n-1)...)
}

func TestCount(t *testing.T) {
	for _, c := range []struct {
		r    api.Route
		want int
	}{{api.Route{}, 1}, {chain(5), 5}, {wide(16), 16}, {leaf("", "a", chain(3), wide(4), leaf("", "b")), 9}, {chain(30000), 30000}} {
		if got := route.Count(c.r); got != c.want {
			t.Error("Count", got, c.want)
		}
	}
}

func TestRight(t *testing.T) {
	long := strings.Repeat("a", api.MaxText)
	for i, r := range []api.Route{leaf("", "all"), leaf("", long), chain(8), wide(16), goes(leaf("", "all")), leaf("", "all", leaf("", "all"), goes(leaf("a=x", "all"))), leaf("", "all", leaf("a=", "x"))} {
		if !route.Right(r) {
			t.Error("is right", i)
		}
	}
	seven := leaf("a=x", "x")
	seven.Ms = slices.Repeat(seven.Ms, 7)
	odd := leaf("a=x", "x")
	odd.Ms[0].Kind = 9
	for i, r := range []api.Route{
		{}, leaf("", ""), leaf("", "All"), leaf("", long+"a"), leaf("a=x", "all"), chain(9), chain(16), chain(60000), wide(17), wide(1000), leaf("", "all", leaf("a=x", "")), leaf("", "all", leaf("A=x", "x")), leaf("", "all", seven), leaf("", "all", odd),
		leaf("", "all", leaf("a=x", "x", leaf("b=1", "B"))), leaf("", "all", leaf("a=x", "x", odd)), leaf("", "all", chain(8)), leaf("", "all", wide(8), wide(8)),
	} {
		if route.Right(r) || len(route.To(r, nil)) != 0 || len(route.All(r, nil, nil)) != 0 {
			t.Error("isn't right", i)
		}
	}
}

func TestTo(t *testing.T) {
	run := leaf("", "all", goes(leaf("a=x", "x")), leaf("b=1", "b"))
	deep := leaf("", "all",
		goes(leaf("a=x", "x", leaf("b=1", "xb"), leaf("c=1", "xc"))),
		goes(leaf("a=x", "x")),
		leaf("b=1", "b", goes(leaf("c=1", "bc", leaf("d=1", "bcd")))),
		leaf("", "rest", leaf("b=2", "all")),
		leaf("", "never"),
	)
	last := leaf("", "all", leaf("a=x", "x"), goes(leaf("b=1", "b")))
	two := leaf("", "all", leaf("a=x", "x"))
	two.Kids[0].Ms = append(two.Kids[0].Ms, api.Matcher{Name: "b", Value: "1", Kind: api.MNe})
	for _, c := range []struct {
		r         api.Route
		set, want string
	}{
		{run, `{a="x",b="1"}`, "x b"}, {run, `{a="x"}`, "x"}, {run, `{}`, "all"}, {run, `{b="1"}`, "b"}, {run, `{a="y",b="2"}`, "all"},
		{last, `{a="x",b="1"}`, "x"}, {last, `{b="1"}`, "b"}, {last, `{}`, "all"},
		{deep, `{}`, "rest"}, {deep, `{b="2"}`, "all"}, {deep, `{a="x"}`, "x x rest"}, {deep, `{a="x",b="1"}`, "xb x b"}, {deep, `{a="x",b="1",c="1"}`, "xb x bc"}, {deep, `{a="x",c="1"}`, "xc x rest"},
		{deep, `{b="1",c="1",d="1"}`, "bcd"}, {deep, `{a="x",b="2"}`, "x x all"},
		{leaf("", "all"), `{a="x"}`, "all"},
		{goes(leaf("", "all")), `{a="x"}`, "all"},
		{two, `{a="x"}`, "x"}, {two, `{a="x",b="1"}`, "all"}, {two, `{b="2"}`, "all"},
		{chain(8), `{}`, "last"},
	} {
		if got := strings.Join(route.To(c.r, set(t, c.set)), " "); got != c.want {
			t.Error("To", c.set, got, c.want)
		}
	}
}

func TestAll(t *testing.T) {
	r := leaf("", "all", goes(leaf("a=x", "x")), leaf("b=1", "b"), leaf("c=1", "a"))
	if got := route.All(r, set(t, `{a="x",b="1"}`), set(t, `{a="x"}`), nil, set(t, `{c="1"}`), nil); fmt.Sprint(got) != "[a all b x]" {
		t.Error(got)
	}
	if len(route.All(r)) != 0 {
		t.Error("of no sets")
	}
	twice := leaf("", "all", goes(leaf("a=x", "x")), leaf("a=x", "x"))
	if got := route.All(twice, set(t, `{a="x"}`)); fmt.Sprint(got) != "[x]" {
		t.Error("each once", got)
	}
}

// said is what the chapter says, word by word.
func said(r api.Route, l []api.Label) []string {
	var got []string
	matched := false
	for i, kid := range r.Kids {
		if !match.All(l, kid.Ms...) {
			continue
		}
		matched = true
		got = append(got, said(r.Kids[i], l)...)
		if !kid.Goes {
			break
		}
	}
	if !matched {
		return []string{r.To}
	}
	return got
}

func TestAgainstWords(t *testing.T) {
	dice := rand.New(rand.NewSource(17))
	count := 0
	var tree func(deep int) api.Route
	tree = func(deep int) api.Route {
		count++
		r := leaf([]string{"a=x", "a=y", "b=1", ""}[dice.Intn(4)], "r"+strconv.Itoa(dice.Intn(9)))
		r.Goes = dice.Intn(2) == 0
		for deep < 4 && count < 14 && dice.Intn(3) > 0 {
			r.Kids = append(r.Kids, tree(deep+1))
		}
		return r
	}
	sets := [][]api.Label{nil, set(t, `{a="x"}`), set(t, `{a="y"}`), set(t, `{a="x",b="1"}`), set(t, `{b="1"}`)}
	for range 1000 {
		count = 0
		r := tree(1)
		r.Ms = nil
		all := map[string]int{}
		for _, l := range sets {
			got := route.To(r, l)
			if !slices.Equal(got, said(r, l)) || len(got) == 0 {
				t.Fatal(r, l, got)
			}
			for _, to := range got {
				all[to] = 1
			}
		}
		got := route.All(r, sets...)
		if len(got) != len(all) || !slices.IsSorted(got) {
			t.Fatal("All", got, all)
		}
		if len(got) > 0 {
			got[0] = "spoiled"
		}
		if got := route.All(r, sets...); len(got) != len(all) || slices.Contains(got, "spoiled") {
			t.Fatal("All shares memory")
		}
	}
}
