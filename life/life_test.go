package life_test

import (
	"fmt"
	"math"
	"math/rand"
	"slices"
	"testing"

	"klaxon/api"
	"klaxon/life"
)

const (
	off  = api.Inactive
	pend = api.Pending
	fire = api.Firing
)

// held makes a row of a text: x where it holds.
func held(s string) []bool {
	var l []bool
	for _, c := range s {
		l = append(l, c == 'x')
	}
	return l
}

// told is states as a text.
func told(states []int) string {
	s := ""
	for _, state := range states {
		s += string("-pF???"[state%6])
	}
	return s
}

func TestRun(t *testing.T) {
	for _, c := range []struct {
		step, long, keep int
		row, want        string
	}{
		{10, 20, 10, "xxx...", "ppFF--"},
		{10, 20, 0, "xxx.xxx", "ppF-ppF"},
		{10, 20, 9, "xxx..", "ppF--"},
		{10, 20, 19, "xxx...", "ppFF--"},
		{10, 20, 20, "xxx....", "ppFFF--"},
		{10, 21, 0, "xxxxx", "pppFF"},
		{10, 19, 0, "xxxxx", "ppFFF"},
		{10, 11, 0, "xxxxx", "ppFFF"},
		{10, 10, 0, "xxxxx", "pFFFF"},
		{10, 1, 0, "xxxxx", "pFFFF"},
		{10, 0, 0, "x.x", "F-F"},
		{10, 20, 50, "xx.xxx.x", "pp-ppFFF"},
		{10, 20, 10, "xxx.x.x..x", "ppFFFFFF-p"},
		{10, 20, 10, "xxx..x.xxx", "ppF" + "F-p-ppF"},
		{1, 0, 3, "x...x....x", "FFFFFFFF-F"},
		{7, 20, 0, "xxxxx", "pppFF"},
		{7, 21, 0, "xxxxx", "pppFF"},
		{7, 22, 0, "xxxxxx", "ppppFF"},
		{10, 20, 10, "", ""},
		{10, 20, 10, "...", "---"},
		{10, math.MaxInt, 0, "xxxx", "pppp"},
		{math.MaxInt, math.MaxInt, math.MaxInt, "xxx.x..", "pFFFFF-"},
		{math.MaxInt - 1, math.MaxInt, math.MaxInt - 2, "xxxx.", "ppFF-"},
		{1 << 62, 1<<62 + 1, 1<<62 + 1, "xxxx...", "ppFFF--"},
		{1, 0, math.MaxInt, "x......", "FFFFFFF"},
	} {
		if got := told(life.Run(c.step, c.long, c.keep, held(c.row)...)); got != c.want {
			t.Errorf("Run(%d, %d, %d, %s) = %s, want %s", c.step, c.long, c.keep, c.row, got, c.want)
		}
	}
}

func TestNext(t *testing.T) {
	type call struct {
		tick, step, long, keep int
		holds                  bool
	}
	for _, c := range []struct {
		l    life.Life
		c    call
		want life.Life
	}{
		{life.Life{}, call{5, 10, 20, 10, true}, life.Life{State: pend, Since: 5, Last: 5}},
		{life.Life{}, call{5, 10, 0, 10, true}, life.Life{State: fire, Since: 5, Last: 5}},
		{life.Life{}, call{5, 10, 20, 10, false}, life.Life{}},
		{life.Life{State: pend, Since: 5, Last: 5}, call{6, 10, 20, 10, true}, life.Life{State: pend, Since: 5, Last: 6}},
		{life.Life{State: pend, Since: 5, Last: 6}, call{7, 10, 20, 10, true}, life.Life{State: fire, Since: 5, Last: 7}},
		{life.Life{State: pend, Since: 5, Last: 6}, call{7, 10, 20, 99, false}, life.Life{}},
		// Ticks left out: nothing is known of them.
		{life.Life{State: pend, Since: 5, Last: 5}, call{9, 10, 20, 10, true}, life.Life{State: fire, Since: 5, Last: 9}},
		{life.Life{State: fire, Since: 5, Last: 7}, call{8, 10, 20, 10, true}, life.Life{State: fire, Since: 5, Last: 8}},
		{life.Life{State: fire, Since: 5, Last: 7}, call{99, 10, 20, 10, true}, life.Life{State: fire, Since: 5, Last: 99}},
		{life.Life{State: fire, Since: 5, Last: 7}, call{8, 10, 20, 10, false}, life.Life{State: fire, Since: 5, Last: 7}},
		{life.Life{State: fire, Since: 5, Last: 7}, call{9, 10, 20, 10, false}, life.Life{}},
		{life.Life{State: fire, Since: 5, Last: 7}, call{9, 10, 20, 20, false}, life.Life{State: fire, Since: 5, Last: 7}},
		{life.Life{State: fire, Since: 5, Last: 7}, call{9, 10, 20, 19, false}, life.Life{}},
		{life.Life{State: fire, Since: 0, Last: 0}, call{math.MaxInt, 1, 0, math.MaxInt, false}, life.Life{State: fire}},
		{life.Life{State: fire, Since: 0, Last: 0}, call{math.MaxInt, 2, 0, math.MaxInt, false}, life.Life{}},
		{life.Life{State: pend, Since: 0, Last: 0}, call{1 << 40, 1 << 40, math.MaxInt, 0, true}, life.Life{State: fire, Last: 1 << 40}},
	} {
		if got := c.l.Next(c.c.tick, c.c.step, c.c.long, c.c.keep, c.c.holds); got != c.want {
			t.Errorf("%+v.Next%+v = %+v", c.l, c.c, got)
		}
	}
}

func TestTurns(t *testing.T) {
	for _, c := range []struct {
		states []int
		want   string
	}{
		{nil, "[]"},
		{[]int{off, off}, "[]"},
		{[]int{pend, pend, fire, fire, off, off}, "[{0 1 []} {2 2 []} {4 0 []}]"},
		{[]int{off, fire, off, pend}, "[{1 2 []} {2 0 []} {3 1 []}]"},
		{[]int{fire}, "[{0 2 []}]"},
	} {
		if got := fmt.Sprint(life.Turns(c.states)); got != c.want {
			t.Error("Turns", c.states, got)
		}
	}
	states := life.Run(10, 20, 10, held("xxx...")...)
	if got := fmt.Sprint(life.Turns(states)); got != "[{0 1 []} {2 2 []} {4 0 []}]" {
		t.Error("Turns of the run", got)
	}
}

// said is what the chapter says of a row, word by word, with times.
func said(step, long, keep int, holds []bool) []int {
	var states []int
	state, since, last := off, 0, 0
	for tick, holding := range holds {
		switch {
		case holding:
			if state == off {
				state, since = pend, tick
			}
			if state == pend && (tick-since)*step >= long {
				state = fire
			}
			last = tick
		case state == pend, state == fire && (tick-last)*step > keep:
			state = off
		}
		states = append(states, state)
	}
	return states
}

func TestAgainstWords(t *testing.T) {
	dice := rand.New(rand.NewSource(12))
	for range 3000 {
		row := make([]bool, dice.Intn(30))
		often := 1 + dice.Intn(4)
		for i := range row {
			row[i] = dice.Intn(5) < often
		}
		step, long, keep := 1+dice.Intn(12), dice.Intn(40), dice.Intn(40)
		got := life.Run(step, long, keep, row...)
		if want := said(step, long, keep, row); !slices.Equal(got, want) {
			t.Fatal(step, long, keep, row, told(got), told(want))
		}
		if got = life.Run(step, 0, keep, row...); slices.Contains(got, pend) {
			t.Fatal("with long 0 nothing is ever pending", step, keep, row, told(got))
		}
	}
}

// Of whatever numbers nothing panics.
func TestAnyNumbers(t *testing.T) {
	ns := []int{math.MinInt, -1, 0, 1, 7, math.MaxInt}
	for _, a := range ns {
		for _, b := range ns {
			for _, c := range ns {
				for _, d := range ns {
					for state := -1; state < 4; state++ {
						l := life.Life{State: state, Since: a, Last: b}
						l.Next(c, d, a, b, true)
						l.Next(c, d, a, b, false)
					}
					life.Run(a, b, c, true, false, true)
				}
			}
		}
	}
	life.Turns([]int{7, -1, math.MaxInt})
	row := []bool{true, true, false, true}
	life.Run(1, 0, 0, row[:2]...)
	if !slices.Equal(row, []bool{true, true, false, true}) {
		t.Error("what was handed in was changed")
	}
}
