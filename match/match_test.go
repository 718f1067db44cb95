package match_test

import (
	"slices"
	"strings"
	"testing"

	"klaxon/api"
	"klaxon/lset"
	"klaxon/match"
)

func m(name string, kind int, value string) api.Matcher {
	return api.Matcher{Name: name, Value: value, Kind: kind}
}

// set makes labels of names and values.
func set(words ...string) []api.Label {
	var l []api.Label
	for i := 0; i < len(words); i += 2 {
		l = append(l, api.Label{Name: words[i], Value: words[i+1]})
	}
	return l
}

func times(n int, x api.Matcher) []api.Matcher {
	return slices.Repeat([]api.Matcher{x}, n)
}

var (
	long24 = strings.Repeat("a", api.MaxText)
	long25 = strings.Repeat("a", api.MaxText+1)
)

func TestRight(t *testing.T) {
	good := m("a", api.MEq, "x")
	for _, ms := range [][]api.Matcher{
		nil, {}, {good}, {m("a", api.MNe, "")}, {m("a", api.MHas, long24)}, {m(long24, api.MNot, "\x00\"\\")},
		times(api.MaxLabels, good), {m("b", api.MEq, "x"), m("a", api.MEq, "x")},
	} {
		if !match.Right(ms...) {
			t.Error("are right:", ms)
		}
	}
	for _, ms := range [][]api.Matcher{
		times(api.MaxLabels+1, good), {m("", api.MEq, "x")}, {m("A", api.MEq, "x")}, {m(long25, api.MEq, "x")}, {m("a", api.MEq, long25)},
		{m("a", 0, "x")}, {m("a", 5, "x")}, {m("a", -1, "x")}, {m("a", 1<<40, "x")}, {good, m("a", 0, "x")}, {good, good, m("_", api.MNot, "x")}, {{}},
	} {
		if match.Right(ms...) {
			t.Error("aren't right:", ms)
		}
	}
}

func TestAll(t *testing.T) {
	for _, c := range []struct {
		l    []api.Label
		ms   []api.Matcher
		want bool
	}{
		{set("a", "x", "b", "z"), []api.Matcher{m("a", api.MEq, "x"), m("b", api.MNot, "y")}, true},
		{set("a", "x", "b", "yy"), []api.Matcher{m("a", api.MEq, "x"), m("b", api.MNot, "y")}, false},
		{nil, []api.Matcher{m("a", api.MEq, "")}, true},
		{nil, nil, true},
		{set("a", "x"), nil, true},
		{set("a", "x"), []api.Matcher{m("a", api.MEq, "")}, false},
		{set("a", "x"), []api.Matcher{m("a", api.MEq, "x")}, true},
		{set("a", "xy"), []api.Matcher{m("a", api.MEq, "x")}, false},
		{set("a", "x"), []api.Matcher{m("b", api.MEq, "x")}, false},
		{set("a", "x"), []api.Matcher{m("a", api.MNe, "x")}, false},
		{set("a", "xy"), []api.Matcher{m("a", api.MNe, "x")}, true},
		{set("a", "x"), []api.Matcher{m("b", api.MNe, "")}, false},
		{set("a", "x"), []api.Matcher{m("b", api.MNe, "x")}, true},
		{set("a", "xy"), []api.Matcher{m("a", api.MHas, "x")}, true},
		{set("a", "xy"), []api.Matcher{m("a", api.MHas, "xy")}, true},
		{set("a", "xy"), []api.Matcher{m("a", api.MHas, "xyz")}, false},
		{set("a", "xy"), []api.Matcher{m("a", api.MHas, "y")}, false},
		{set("a", "xy"), []api.Matcher{m("a", api.MHas, "")}, true},
		{nil, []api.Matcher{m("a", api.MHas, "")}, true},
		{nil, []api.Matcher{m("a", api.MHas, "x")}, false},
		{set("a", "xy"), []api.Matcher{m("a", api.MNot, "x")}, false},
		{set("a", "xy"), []api.Matcher{m("a", api.MNot, "y")}, true},
		{set("a", "xy"), []api.Matcher{m("a", api.MNot, "")}, false},
		{nil, []api.Matcher{m("a", api.MNot, "")}, false},
		{nil, []api.Matcher{m("a", api.MNot, "x")}, true},
		{set("a", "x"), []api.Matcher{m("a", 0, "x")}, false},
		{set("a", "x"), []api.Matcher{m("a", 5, "x")}, false},
		{set("a", "x"), []api.Matcher{m("a", -1, "y")}, false},
		{set("a", "x"), []api.Matcher{m("a", api.MEq, "x"), m("a", 0, "x")}, false},
		{set("a", "x"), []api.Matcher{m("a", api.MEq, "y"), m("a", api.MEq, "x")}, false},
		{set("a", "x"), []api.Matcher{m("a", api.MEq, "x"), m("a", api.MEq, "y")}, false},
		{set("a", "x"), times(20, m("a", api.MEq, "x")), true},
		{set("a", "1", "a", "2"), []api.Matcher{m("a", api.MEq, "1")}, true},
		{set("a", "1", "a", "2"), []api.Matcher{m("a", api.MEq, "2")}, false},
		{set("", "1"), []api.Matcher{m("", api.MEq, "1")}, true},
	} {
		if got := match.All(c.l, c.ms...); got != c.want {
			t.Errorf("All(%v, %v) = %v", c.l, c.ms, got)
		}
	}
}

func TestPrint(t *testing.T) {
	for _, c := range []struct {
		ms   []api.Matcher
		want string
	}{
		{nil, "{}"},
		{[]api.Matcher{m("a", api.MEq, "x")}, `{a="x"}`},
		{[]api.Matcher{m("a", api.MNe, "")}, `{a!=""}`},
		{[]api.Matcher{m("b", api.MHas, `"`), m("a", api.MNot, `\`), m("a", api.MNot, "z")}, `{b^="\"",a!^"\\",a!^"z"}`},
		{[]api.Matcher{m("a", 0, "x")}, ""},
		{[]api.Matcher{m("", api.MEq, "x")}, ""},
		{times(api.MaxLabels+1, m("a", api.MEq, "x")), ""},
	} {
		if got := match.Print(c.ms...); got != c.want {
			t.Errorf("Print(%v) = %q", c.ms, got)
		}
	}
}

func TestExact(t *testing.T) {
	if got := match.Exact(nil); len(got) != 0 {
		t.Error("of none", got)
	}
	got := match.Exact(set("b", "1", "a", "", "b", "1"))
	if !slices.Equal(got, []api.Matcher{m("b", api.MEq, "1"), m("a", api.MEq, ""), m("b", api.MEq, "1")}) {
		t.Error(got)
	}
	sets := [][]api.Label{nil, set("a", "x"), set("a", "y"), set("a", "xx"), set("a", "x", "b", "1"), set("b", "1"), set("a", "x", "b", "1", "c", "2")}
	for _, l := range sets {
		for _, other := range sets {
			has := true
			for _, x := range l {
				has = has && lset.Get(other, x.Name) == x.Value
			}
			if match.All(other, match.Exact(l)...) != has {
				t.Error("what Exact matches has all labels", l, other)
			}
		}
	}
}

// spoil writes over all of l, the room behind it, too.
func spoil[T any](l []T, mark T) {
	l = l[:cap(l)]
	for i := range l {
		l[i] = mark
	}
}

func TestNothingChanged(t *testing.T) {
	mark := m("mark", api.MEq, "mark")
	given := []api.Matcher{m("b", api.MEq, "1"), m("a", api.MHas, "2"), mark, mark}
	labels := []api.Label{{Name: "a", Value: "2"}, {Name: "b", Value: "1"}, {Name: "mark"}}
	wantGiven, wantLabels := slices.Clone(given), slices.Clone(labels)
	ms, l := given[:2], labels[:2]
	match.Right(ms...)
	match.All(l, ms...)
	match.Print(ms...)
	spoil(match.Exact(l), mark)
	if !slices.Equal(given, wantGiven) || !slices.Equal(labels, wantLabels) {
		t.Error("what was handed in was changed")
	}
}
