package lapse_test

import (
	"math"
	"testing"

	"klaxon/lapse"
)

func TestLeastMost(t *testing.T) {
	for _, c := range []struct{ step, span, least, most int }{
		{10, 0, 0, 0}, {10, 1, 1, 0}, {10, 9, 1, 0}, {10, 10, 1, 1}, {10, 11, 2, 1}, {10, 20, 2, 2}, {1, math.MaxInt, math.MaxInt, math.MaxInt}, {math.MaxInt, math.MaxInt, 1, 1}, {math.MaxInt, 1, 1, 0},
		{10, -1, 0, -1}, {10, math.MinInt, 0, -1}, {0, 5, 5, 5}, {-7, 5, 5, 5}, {math.MinInt, 5, 5, 5},
	} {
		if least, most := lapse.Least(c.step, c.span), lapse.Most(c.step, c.span); least != c.least || most != c.most {
			t.Error(c, least, most)
		}
	}
}
