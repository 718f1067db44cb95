// Package clone makes new memory of what is handed in or kept, down to the last list.
package clone

import (
	"slices"

	"klaxon/api"
)

// each is l, each element of it made anew by one.
func each[T any](l []T, one func(T) T) []T {
	made := make([]T, 0, len(l))
	for _, x := range l {
		made = append(made, one(x))
	}
	return made
}

// Expr is new memory of an expression.
func Expr(x api.Expr) api.Expr {
	x.Ms = slices.Clone(x.Ms)
	x.Names = slices.Clone(x.Names)
	x.Kids = each(x.Kids, Expr)
	return x
}

// Points is new memory of points.
func Points(l []api.Point) []api.Point {
	return each(l, point)
}

func point(p api.Point) api.Point {
	p.Set = slices.Clone(p.Set)
	return p
}

// Rule is new memory of a rule.
func Rule(r api.Rule) api.Rule {
	r.Expr = Expr(r.Expr)
	return r
}

// Note is new memory of a note.
func Note(n api.Note) api.Note {
	n.Alerts = slices.Clone(n.Alerts)
	return n
}

// Route is new memory of a tree of routes.
func Route(r api.Route) api.Route {
	r.Ms = slices.Clone(r.Ms)
	r.Kids = each(r.Kids, Route)
	return r
}
