package clone_test

import (
	"fmt"
	"testing"

	"klaxon/api"
	"klaxon/clone"
)

// spoil writes over all of l, the room behind it, too.
func spoil[T any](l []T, mark T) {
	l = l[:cap(l)]
	for i := range l {
		l[i] = mark
	}
}

func labels() []api.Label     { return []api.Label{{Name: "a", Value: "x"}, {Name: "b", Value: "y"}} }
func matchers() []api.Matcher { return []api.Matcher{{Name: "a", Value: "x", Kind: api.MEq}} }

// check makes two of one thing, spoils the clone of the one, and holds it against the other.
func check[T any](t *testing.T, make func() T, cloned func(T) T, spoilt func(T)) {
	t.Helper()
	given := make()
	got := cloned(given)
	if fmt.Sprint(got) != fmt.Sprint(given) {
		t.Error("a clone is the same", got, given)
	}
	spoilt(got)
	if fmt.Sprint(given) != fmt.Sprint(make()) {
		t.Error("a clone shares memory", given)
	}
}

func TestClones(t *testing.T) {
	check(t, func() []api.Point { return []api.Point{{Set: labels(), Value: 7}, {}} }, clone.Points, func(l []api.Point) {
		spoil(l[0].Set, api.Label{})
		spoil(l, api.Point{})
	})
	check(t, func() api.Note { return api.Note{To: "r", Group: "{}", Alerts: []string{"a", "b"}} }, clone.Note, func(n api.Note) {
		spoil(n.Alerts, "spoiled")
	})
	x := func() api.Expr {
		pick := api.Expr{Kind: api.XPick, N: 5, Ms: matchers()}
		return api.Expr{Kind: api.XSum, Names: []string{"a", "b"}, Ms: matchers(), Kids: []api.Expr{pick, {Kind: api.XNum, N: 3}}}
	}
	spoilExpr := func(x api.Expr) {
		spoil(x.Kids[0].Ms, api.Matcher{})
		spoil(x.Ms, api.Matcher{})
		spoil(x.Names, "spoiled")
		spoil(x.Kids, api.Expr{})
	}
	check(t, x, clone.Expr, spoilExpr)
	check(t, func() api.Rule { return api.Rule{Name: "r", Expr: x(), For: 1, Keep: 2} }, clone.Rule, func(r api.Rule) { spoilExpr(r.Expr) })
	check(t, func() api.Route {
		return api.Route{To: "r", Ms: matchers(), Kids: []api.Route{{To: "k", Ms: matchers(), Goes: true, Kids: []api.Route{{To: "l"}}}}}
	}, clone.Route, func(r api.Route) {
		spoil(r.Kids[0].Ms, api.Matcher{})
		spoil(r.Kids[0].Kids, api.Route{})
		spoil(r.Ms, api.Matcher{})
		spoil(r.Kids, api.Route{})
	})
}
