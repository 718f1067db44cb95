package define_test

import (
	"fmt"
	"math"
	"math/rand"
	"slices"
	"strconv"
	"strings"
	"testing"

	"klaxon/api"
	"klaxon/define"
	"klaxon/live"
	"klaxon/lset"
	"klaxon/rule"
	"klaxon/store"
)

func ruled(t *testing.T, s string) api.Rule {
	t.Helper()
	r, at, err := rule.Parse(s)
	if err != api.OK {
		t.Fatal("not a rule:", s, at, err)
	}
	return r
}

func set(t *testing.T, s string) []api.Label {
	t.Helper()
	l, ok := lset.Parse(s)
	if !ok {
		t.Fatal("not a set:", s)
	}
	return l
}

func put(t *testing.T, s *store.Store, text string, at, value int) {
	t.Helper()
	if err := s.Put(set(t, text), api.Sample{Time: at, Value: value}); err != api.OK {
		t.Fatal("Put", text, at, err)
	}
}

// feed puts values at the times 0, step, ..; a dot is none.
func feed(t *testing.T, s *store.Store, text string, step int, values string) {
	t.Helper()
	for i, word := range strings.Fields(values) {
		if n, err := strconv.Atoi(word); err == nil {
			put(t, s, text, i*step, n)
		}
	}
}

func grid(start, step, n int) api.Grid { return api.Grid{Start: start, Step: step, N: n} }

// ticks makes a row of a text: x is On, e Erred.
func ticks(s string) []int {
	var row []int
	for _, c := range s {
		row = append(row, map[rune]int{'x': define.On, 'e': define.Erred, '.': define.Off}[c])
	}
	return row
}

// states is the State of each tick of a row.
func states(row []int, step, long, keep int) string {
	s := ""
	for k := range row {
		s += "-pF"[define.State(row, step, long, keep, k):][:1]
	}
	return s
}

func TestRow(t *testing.T) {
	s := store.New()
	feed(t, s, `{a="x",name="m"}`, 5, "5 1 5 9223372036854775807 5 . 5")
	feed(t, s, `{a="y",name="m"}`, 5, "1 5 1 1 5 5 .")
	feed(t, s, `{a="y",name="k"}`, 5, ". . . . . 5 .")
	r := ruled(t, `alert r for 0 keep 0 if (({name="m"}[5] * 1) > 4)`)
	for _, c := range []struct {
		r, set string
		g      api.Grid
		want   string
	}{
		{`alert r for 0 keep 0 if ({name="m"}[5] > 4)`, `{a="x"}`, grid(0, 5, 8), "x.xxx.x."},
		{`alert r for 0 keep 0 if ({name="m"}[5] > 4)`, `{a="y"}`, grid(0, 5, 8), ".x..xx.."},
		{`alert r for 0 keep 0 if ({name="m"}[5] > 4)`, `{a="z"}`, grid(0, 5, 8), "........"},
		{`alert r for 0 keep 0 if ({name="m"}[5] > 4)`, `{}`, grid(0, 5, 8), "........"},
		{`alert r for 0 keep 0 if ({name="m"}[5] > 4)`, `{a="x",name="m"}`, grid(0, 5, 8), "........"},
		{`alert r for 0 keep 0 if ({name="m"}[5] > 4)`, `{a="x"}`, grid(10, 10, 4), "xxx."},
		{`alert r for 0 keep 0 if ({name="m"}[5] > 4)`, `{a="x"}`, grid(0, 5, 0), ""},
		{`alert r for 0 keep 0 if (sum by () ({name="m"}[5]) > 4)`, `{}`, grid(0, 5, 8), "xxxexxx."},
		{`alert r for 0 keep 0 if ({}[5] > 4)`, `{a="x"}`, grid(0, 5, 8), "x.xxxex."},
		{`alert r for 0 keep 0 if ({}[5] > 4)`, `{a="y"}`, grid(0, 5, 8), ".x..xe.."},
		{`alert r for 0 keep 0 if ({}[5] / 0)`, `{a="y"}`, grid(0, 5, 8), "eeeeeee."},
	} {
		if got := define.Row(ruled(t, c.r), s, c.g, set(t, c.set)); !slices.Equal(got, ticks(c.want)) {
			t.Error("Row", c.r, c.set, c.g, got)
		}
	}
	bad := r
	bad.For = -1
	if len(define.Row(bad, s, grid(0, 5, 8), nil)) != 0 || len(define.Row(r, s, grid(0, 0, 8), nil)) != 0 || len(define.Row(r, s, grid(0, 5, 201), nil)) != 0 || len(define.Row(api.Rule{}, s, api.Grid{}, nil)) != 0 {
		t.Error("Row of what may not be")
	}
	if got := define.Row(r, s, grid(0, 5, 8), []api.Label{{Name: "A"}}); !slices.Equal(got, make([]int, 8)) {
		t.Error("Row of a set that isn't right", got)
	}
}

func TestRuns(t *testing.T) {
	row := ticks("xxx.")
	if !define.Fires(row, 10, 20, 0, 2) || define.Fires(row, 10, 20, 0, 3) || define.Fires(row, 10, 20, 0, 1) {
		t.Error("On On On Off")
	}
	if !define.Fires(ticks("xex"), 10, 20, 0, 2) {
		t.Error("On Erred On")
	}
}

func TestStates(t *testing.T) {
	for _, c := range []struct {
		step, long, keep int
		row, want        string
	}{
		{10, 20, 0, "xxx.", "ppF-"},
		{10, 20, 10, "xxx...", "ppFF--"},
		{10, 20, 19, "xxx...", "ppFF--"},
		{10, 20, 20, "xxx...", "ppFFF-"},
		{10, 21, 0, "xxxxx", "pppFF"},
		{10, 0, 0, "x.x", "F-F"},
		{10, 20, 10, "xx.xxx.x..x", "pp-ppFFFF-p"},
		{10, 20, 0, "xex", "ppF"},
		{10, 20, 0, "xe.x", "pp-p"},
		{10, 20, 0, "xee", "ppp"},
		{10, 20, 0, "xeeex", "ppppF"},
		{10, 20, 0, "eexxx", "--ppF"},
		{10, 20, 0, "exeex", "-pppF"},
		{10, 20, 0, "xxxee.", "ppFFF-"},
		{10, 20, 10, "xxx.ee.x", "ppFFFF-p"},
		{10, 20, 40, "xxx.ee.x", "ppFFFFFF"},
		{10, 20, 10, "xxxeeee.", "ppFFFFF-"},
		{10, 20, 10, "xxxeeeexx", "ppFFFFFFF"},
		{10, 20, 0, "x.xx", "p-pp"},
		{10, 20, 0, "eee", "---"},
		{10, 20, 0, "...", "---"},
		{10, 20, 0, "e.e", "---"},
		{1, 0, 3, "x...x....x", "FFFFFFFF-F"},
		{math.MaxInt, math.MaxInt, math.MaxInt, "xx.e..", "pFFF--"},
		{1 << 62, 1<<62 + 1, 1<<62 + 1, "xxxx...", "ppFFF--"},
		{1, math.MaxInt, 0, "xxxx", "pppp"},
		{1, 0, math.MaxInt, "x....", "FFFFF"},
	} {
		if got := states(ticks(c.row), c.step, c.long, c.keep); got != c.want {
			t.Errorf("State of %s, %d, %d, %d: %s, want %s", c.row, c.step, c.long, c.keep, got, c.want)
		}
		for k := range c.row {
			if got := define.Fires(ticks(c.row), c.step, c.long, c.keep, k); got != (c.want[k] == 'F') {
				t.Error("Fires", c.row, k, got)
			}
		}
	}
}

func TestNoPlace(t *testing.T) {
	row := ticks("xxx")
	for _, k := range []int{-1, 3, 4, math.MinInt, math.MaxInt} {
		if define.Fires(row, 10, 0, 0, k) || define.State(row, 10, 0, 0, k) != api.Inactive {
			t.Error("no place of the row", k)
		}
	}
	if define.Fires(nil, 10, 0, 0, 0) || define.State(nil, 10, 0, 0, 0) != api.Inactive {
		t.Error("a row without ticks")
	}
	ns := []int{math.MinInt, -1, 0, 1, 7, math.MaxInt}
	for _, a := range ns {
		for _, b := range ns {
			for _, c := range ns {
				define.State([]int{1, 0, 2, 7, -1, 1}, a, b, c, 5)
				define.Fires([]int{1, 0, 2, 7, -1, 1}, a, b, c, 4)
			}
		}
	}
	with := append(ticks("xxx"), 9)[:3]
	define.State(with, 10, 20, 0, 2)
	if !slices.Equal(with[:4], []int{1, 1, 1, 9}) {
		t.Error("the row was changed")
	}
}

// fires is the definition, word by word.
func fires(row []int, step, long, keep, k int) bool {
	if row[k] == define.Erred {
		return k > 0 && fires(row, step, long, keep, k-1)
	}
	for from := range k + 1 {
		for to := from; to <= k; to++ {
			good := row[from] == define.On && row[to] == define.On && (to-from)*step >= long && !slices.Contains(row[from:to+1], define.Off)
			for i := to + 1; good && i <= k; i++ {
				if row[i] == define.Erred {
					continue
				}
				found := false
				for j := to; j <= i; j++ {
					found = found || row[j] == define.On && (i-j)*step <= keep
				}
				good = found
			}
			if good {
				return true
			}
		}
	}
	return false
}

func TestAgainstWords(t *testing.T) {
	dice := rand.New(rand.NewSource(16))
	for range 2000 {
		row := make([]int, 1+dice.Intn(16))
		for i := range row {
			row[i] = []int{define.On, define.On, define.On, define.Off, define.Erred}[dice.Intn(5)]
		}
		step, long, keep := 1+dice.Intn(10), dice.Intn(40), dice.Intn(30)
		for k := range row {
			want := api.Inactive
			last := k
			for last >= 0 && row[last] == define.Erred {
				last--
			}
			switch {
			case fires(row, step, long, keep, k):
				want = api.Firing
			case last >= 0 && row[last] == define.On:
				want = api.Pending
			}
			if got := define.State(row, step, long, keep, k); got != want || define.Fires(row, step, long, keep, k) != (want == api.Firing) {
				t.Fatal(row, step, long, keep, k, got, want)
			}
		}
	}
}

// It is what live says.
func TestAgainstLive(t *testing.T) {
	dice := rand.New(rand.NewSource(161))
	texts := []string{`({name="m"}[20] > 1)`, `({}[12] > 1)`, `(6 / {name="m"}[20])`, `(sum by (a) ({}[15]) > 3)`, `({name="m"}[15] unless {name="k"}[8])`}
	for range 150 {
		s := store.New()
		for _, text := range []string{`{a="x",name="m"}`, `{a="y",name="m"}`, `{name="m"}`, `{a="x",name="k"}`} {
			for at := dice.Intn(40); at < 150; at += 1 + dice.Intn(25) {
				put(t, s, text, at, dice.Intn(4))
			}
		}
		r := ruled(t, fmt.Sprintf("alert r for %d keep %d if %s", dice.Intn(40), dice.Intn(30), texts[dice.Intn(len(texts))]))
		g := grid(dice.Intn(60), 1+dice.Intn(9), 1+dice.Intn(25))
		for _, text := range []string{`{a="x"}`, `{a="y"}`, `{}`} {
			row := define.Row(r, s, g, set(t, text))
			l := live.New(r, g)
			for k := range g.N {
				_, err := l.Tick(s)
				if (row[k] == define.Erred) != (err != api.OK) {
					t.Fatal("Row", rule.Print(r), k, row[k], err)
				}
				if got := define.State(row, g.Step, r.For, r.Keep, k); got != l.State(set(t, text)) {
					t.Fatal(rule.Print(r), text, row, k, got, l.State(set(t, text)))
				}
			}
		}
	}
}
