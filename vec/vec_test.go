package vec_test

import (
	"math"
	"math/rand"
	"slices"
	"strconv"
	"strings"
	"testing"

	"klaxon/api"
	"klaxon/lset"
	"klaxon/num"
	"klaxon/vec"
)

// vector makes points of a text: sets as they are printed, a colon, a value; blanks between.
func vector(t *testing.T, s string) []api.Point {
	t.Helper()
	var l []api.Point
	for _, word := range strings.Fields(s) {
		at := strings.LastIndex(word, ":")
		set, ok := lset.Parse(word[:at])
		n, err := strconv.Atoi(word[at+1:])
		if !ok || err != nil {
			t.Fatal("not a point:", word)
		}
		l = append(l, api.Point{Set: set, Value: n})
	}
	return l
}

func told(l []api.Point) string {
	var words []string
	for _, p := range l {
		words = append(words, lset.Print(p.Set)+":"+strconv.Itoa(p.Value))
	}
	return strings.Join(words, " ")
}

const most, least = math.MaxInt, math.MinInt

func TestSort(t *testing.T) {
	l := vector(t, `{b="1"}:1 {}:2 {a="x"}:3 {a="x",b="1"}:4 {a="x"}:1 {}:1`)
	if got := told(vec.Sort(l)); got != `{a="x",b="1"}:4 {a="x"}:3 {a="x"}:1 {b="1"}:1 {}:2 {}:1` {
		t.Error(got)
	}
	if len(vec.Sort(nil)) != 0 {
		t.Error("of none")
	}
	var many []api.Point
	for i := range 300 {
		many = append(many, api.Point{Set: []api.Label{{Name: "a", Value: strconv.Itoa(i % 3)}}, Value: i})
	}
	got := vec.Sort(many)
	for i := 1; i < len(got); i++ {
		if lset.Compare(got[i-1].Set, got[i].Set) == 0 && got[i-1].Value > got[i].Value {
			t.Fatal("those alike are as they were")
		}
	}
}

func TestTwice(t *testing.T) {
	for s, want := range map[string]bool{
		"": false, `{}:1`: false, `{}:1 {}:1`: true, `{}:1 {a="x"}:1`: false, `{}:1 {name="m"}:2`: true, `{a="x",name="m"}:1 {a="x",name="k"}:2`: true,
		`{a="x",name="m"}:1 {a="y",name="m"}:1`: false, `{a="1"}:1 {b="1"}:1 {a="1",b="1"}:1 {a="1"}:5`: true,
	} {
		if got := vec.Twice(vector(t, s)); got != want {
			t.Error("Twice", s, got)
		}
	}
}

func TestSame(t *testing.T) {
	l := []string{``, `{}:1`, `{}:2`, `{a="x"}:1`, `{a="x"}:1 {}:1`, `{}:1 {a="x"}:1`, `{}:1 {}:1`, `{a="x",b="x"}:1`, `{a="y"}:1`}
	for i, a := range l {
		for j, b := range l {
			if got := vec.Same(vector(t, a), vector(t, b)); got != (i == j) {
				t.Error("Same", a, b, got)
			}
		}
	}
	if !vec.Same(nil, []api.Point{}) || !vec.Same([]api.Point{{}}, []api.Point{{Set: []api.Label{}}}) {
		t.Error("nil and empty are the same")
	}
}

func TestReckon(t *testing.T) {
	ns := []int{0, 1, -1, 2, 7, -7, most, least}
	for kind, call := range map[int]func(a, b int) (int, api.Errno){api.XAdd: num.Add, api.XSub: num.Sub, api.XMul: num.Mul, api.XDiv: num.Div, api.XMod: num.Mod} {
		for _, a := range ns {
			for _, b := range ns {
				want, wantErr := call(a, b)
				if got, err := vec.Reckon(kind, a, b); got != want || err != wantErr {
					t.Error("Reckon", kind, a, b, got, err)
				}
			}
		}
	}
}

func TestHolds(t *testing.T) {
	for kind, want := range map[int][3]bool{ // of 1 and 2, of 2 and 2, of 2 and 1
		api.XEq: {false, true, false}, api.XNe: {true, false, true}, api.XLt: {true, false, false}, api.XLe: {true, true, false}, api.XGt: {false, false, true}, api.XGe: {false, true, true},
	} {
		if got := [3]bool{vec.Holds(kind, 1, 2), vec.Holds(kind, 2, 2), vec.Holds(kind, 2, 1)}; got != want {
			t.Error("Holds", kind, got)
		}
		if vec.Holds(kind, least, most) != want[0] || vec.Holds(kind, most, least) != want[2] {
			t.Error("Holds of far ones", kind)
		}
	}
}

func TestMath(t *testing.T) {
	for _, c := range []struct {
		kind       int
		a, b, want string
		err        api.Errno
	}{
		{api.XAdd, `{a="x",name="m"}:1`, `{a="x",name="k"}:2`, `{a="x"}:3`, api.OK},
		{api.XSub, `{name="m"}:1`, `{}:2`, `{}:-1`, api.OK},
		{api.XSub, `{b="1"}:1 {a="x"}:2 {a="y"}:3`, `{a="x"}:10 {b="1"}:20 {c="1"}:30`, `{a="x"}:-8 {b="1"}:-19`, api.OK},
		{api.XDiv, `{b="1"}:7 {a="x"}:-7`, `{a="x"}:2 {b="1"}:2`, `{a="x"}:-3 {b="1"}:3`, api.OK},
		{api.XMod, `{a="x"}:-7`, `{a="x"}:2`, `{a="x"}:-1`, api.OK},
		{api.XMul, `{a="x"}:-7`, `{a="y"}:2`, ``, api.OK},
		{api.XMul, ``, ``, ``, api.OK},
		{api.XDiv, `{b="1"}:1 {a="x"}:-9223372036854775808`, `{a="x"}:-1 {b="1"}:0`, ``, api.ErrZero},
		{api.XDiv, `{a="x"}:-9223372036854775808 {b="1"}:1`, `{a="x"}:-1 {b="1"}:0`, ``, api.ErrOver},
		{api.XDiv, `{a="x"}:1`, `{a="y"}:0`, ``, api.OK},
		{api.XAdd, `{a="x",name="m"}:1 {a="x"}:1`, `{a="x"}:9223372036854775807`, ``, api.ErrTwice},
		{api.XAdd, `{a="x"}:1`, `{b="1",name="m"}:1 {b="1",name="k"}:9223372036854775807`, ``, api.ErrTwice},
		{api.XDiv, `{a="x"}:1`, `{a="x",name="m"}:0 {a="x",name="k"}:0`, ``, api.ErrTwice},
	} {
		got, err := vec.Math(c.kind, vector(t, c.a), vector(t, c.b))
		if told(got) != c.want || err != c.err {
			t.Error("Math", c.kind, c.a, c.b, told(got), err)
		}
	}
}

func TestScale(t *testing.T) {
	for _, c := range []struct {
		kind  int
		a     string
		n     int
		first bool
		want  string
		err   api.Errno
	}{
		{api.XSub, `{name="m"}:1 {a="x",name="m"}:5`, 10, false, `{a="x"}:-5 {}:-9`, api.OK},
		{api.XSub, `{name="m"}:1 {a="x",name="m"}:5`, 10, true, `{a="x"}:5 {}:9`, api.OK},
		{api.XDiv, `{}:0`, 7, false, `{}:0`, api.OK},
		{api.XDiv, `{}:0`, 7, true, ``, api.ErrZero},
		{api.XDiv, `{}:7`, 0, false, ``, api.ErrZero},
		{api.XAdd, `{b="1"}:9223372036854775807 {a="x"}:1`, 1, false, ``, api.ErrOver},
		{api.XDiv, `{b="1"}:-1 {a="x"}:0`, least, true, ``, api.ErrOver},
		{api.XDiv, `{a="x"}:0 {b="1"}:-1`, least, true, ``, api.ErrZero},
		{api.XDiv, `{a="x"}:0 {a="x",name="m"}:0`, 1, true, ``, api.ErrTwice},
		{api.XDiv, ``, 0, false, ``, api.OK},
	} {
		got, err := vec.Scale(c.kind, vector(t, c.a), c.n, c.first)
		if told(got) != c.want || err != c.err {
			t.Error("Scale", c.kind, c.a, c.n, c.first, told(got), err)
		}
	}
}

func TestFilter(t *testing.T) {
	for _, c := range []struct {
		kind       int
		a, b, want string
		err        api.Errno
	}{
		{api.XGt, `{b="1"}:5 {a="x",name="m"}:3 {c="1"}:9`, `{a="x",name="k"}:2 {b="1"}:4`, `{a="x",name="m"}:3 {b="1"}:5`, api.OK},
		{api.XGt, `{b="1"}:4 {a="x",name="m"}:3`, `{a="x",name="k"}:2 {b="1"}:4`, `{a="x",name="m"}:3`, api.OK},
		{api.XEq, `{}:1`, ``, ``, api.OK},
		{api.XEq, ``, `{}:1`, ``, api.OK},
		{api.XEq, `{}:1 {name="m"}:2`, ``, ``, api.ErrTwice},
		{api.XEq, ``, `{}:1 {name="m"}:2`, ``, api.ErrTwice},
	} {
		got, err := vec.Filter(c.kind, vector(t, c.a), vector(t, c.b))
		if told(got) != c.want || err != c.err {
			t.Error("Filter", c.kind, c.a, c.b, told(got), err)
		}
	}
}

func TestAbove(t *testing.T) {
	l := `{name="m"}:5 {name="k"}:6 {a="x"}:4 {}:7`
	for kind, want := range map[int]string{
		api.XGt: `{name="k"}:6 {}:7`, api.XGe: `{name="k"}:6 {name="m"}:5 {}:7`, api.XEq: `{name="m"}:5`, api.XLt: `{a="x"}:4`,
	} {
		if got := told(vec.Above(kind, vector(t, l), 5)); got != want {
			t.Error("Above", kind, got)
		}
	}
	if len(vec.Above(api.XGt, nil, 5)) != 0 {
		t.Error("of none")
	}
}

func TestLogic(t *testing.T) {
	a, b := `{b="1",name="m"}:1 {a="x",name="m"}:2 {}:3`, `{a="x"}:5 {c="1"}:6 {b="1"}:7`
	for kind, want := range map[int]string{
		api.XAnd: `{a="x",name="m"}:2 {b="1",name="m"}:1`, api.XUnless: `{}:3`, api.XOr: `{a="x",name="m"}:2 {b="1",name="m"}:1 {c="1"}:6 {}:3`,
	} {
		got, err := vec.Logic(kind, vector(t, a), vector(t, b))
		if told(got) != want || err != api.OK {
			t.Error("Logic", kind, told(got), err)
		}
		for _, twice := range [][2]string{{`{}:1 {name="m"}:1`, ``}, {``, `{}:1 {name="m"}:1`}} {
			if got, err := vec.Logic(kind, vector(t, twice[0]), vector(t, twice[1])); err != api.ErrTwice || len(got) != 0 {
				t.Error("Logic of two of one key", kind, told(got), err)
			}
		}
		none := map[int]string{api.XAnd: ``, api.XUnless: `{}:1`, api.XOr: `{}:1`}[kind]
		if got, _ := vec.Logic(kind, vector(t, `{}:1`), nil); told(got) != none {
			t.Error("Logic with none", kind, told(got))
		}
	}
	if got, _ := vec.Logic(api.XOr, nil, vector(t, `{name="m"}:1 {a="x"}:1`)); told(got) != `{a="x"}:1 {name="m"}:1` {
		t.Error("or of none", told(got))
	}
}

func TestGroup(t *testing.T) {
	l := `{a="x",b="1"}:1 {a="y",b="1"}:5 {a="x",b="2"}:2`
	for _, c := range []struct {
		kind  int
		names []string
		l     string
		want  string
		err   api.Errno
	}{
		{api.XSum, []string{"a"}, l, `{a="x"}:3 {a="y"}:5`, api.OK},
		{api.XMin, []string{"a"}, l, `{a="x"}:1 {a="y"}:5`, api.OK},
		{api.XMax, []string{"a"}, l, `{a="x"}:2 {a="y"}:5`, api.OK},
		{api.XCount, []string{"a"}, l, `{a="x"}:2 {a="y"}:1`, api.OK},
		{api.XSum, nil, l, `{}:8`, api.OK},
		{api.XSum, []string{"z"}, l, `{}:8`, api.OK},
		{api.XSum, []string{"b", "a"}, l, `{a="x",b="1"}:1 {a="x",b="2"}:2 {a="y",b="1"}:5`, api.OK},
		{api.XSum, []string{"name"}, `{name="m"}:1 {name="k"}:1 {a="x",name="m"}:3`, `{name="k"}:1 {name="m"}:4`, api.OK},
		{api.XSum, []string{"a"}, `{name="m"}:1 {name="m"}:2`, `{}:3`, api.OK},
		{api.XSum, []string{"a"}, ``, ``, api.OK},
		{api.XCount, nil, ``, ``, api.OK},
		{api.XMin, nil, `{a="x"}:-5 {a="y"}:-9223372036854775808 {a="z"}:3`, `{}:-9223372036854775808`, api.OK},
		{api.XMax, nil, `{a="x"}:-5 {a="y"}:-7`, `{}:-5`, api.OK},
		{api.XSum, nil, `{a="x"}:9223372036854775807 {a="y"}:1 {a="z"}:-1`, ``, api.ErrOver},
		{api.XSum, nil, `{a="x"}:9223372036854775807 {a="z"}:-1 {a="y"}:1`, `{}:9223372036854775807`, api.OK},
		{api.XSum, []string{"a"}, `{a="a"}:1 {a="x",b="1"}:9223372036854775807 {a="x"}:1`, ``, api.ErrOver},
		{api.XCount, nil, `{a="x"}:9223372036854775807 {a="y"}:1`, `{}:2`, api.OK},
	} {
		got, err := vec.Group(c.kind, c.names, vector(t, c.l))
		if told(got) != c.want || err != c.err {
			t.Error("Group", c.kind, c.names, c.l, told(got), err)
		}
	}
}

// Of any kinds all ends.
func TestOtherKinds(t *testing.T) {
	l := vector(t, `{a="x"}:1 {a="y"}:2 {b="1"}:3`)
	for _, kind := range []int{-1, 0, api.XNum, api.XPick, api.XAdd, api.XEq, api.XAnd, api.XSum, 99, most, least} {
		vec.Reckon(kind, least, -1)
		vec.Holds(kind, 1, 1)
		vec.Math(kind, l, l)
		vec.Scale(kind, l, 0, true)
		vec.Filter(kind, l, l)
		vec.Above(kind, l, 0)
		vec.Logic(kind, l, l)
		vec.Group(kind, []string{"a"}, l)
	}
}

// Math, Filter and Logic of any two vectors are what a walk through all pairs says.
func TestAgainstPairs(t *testing.T) {
	dice := rand.New(rand.NewSource(9))
	random := func() []api.Point {
		var l []api.Point
		for _, i := range dice.Perm(6)[:dice.Intn(6)] {
			set := []api.Label{{Name: "a", Value: strconv.Itoa(i)}}
			l = append(l, api.Point{Set: lset.With(set, "name", []string{"", "m", "k"}[dice.Intn(3)]), Value: dice.Intn(5)})
		}
		return l
	}
	for range 300 {
		a, b := random(), random()
		sums, above, both, less := []api.Point{}, []api.Point{}, []api.Point{}, []api.Point{}
		or := slices.Clone(a)
		for _, p := range a {
			found := false
			for _, q := range b {
				if lset.Get(p.Set, "a") != lset.Get(q.Set, "a") {
					continue
				}
				found = true
				sums = append(sums, api.Point{Set: lset.Drop(p.Set, "name"), Value: p.Value + q.Value})
				both = append(both, p)
				if p.Value > q.Value {
					above = append(above, p)
				}
			}
			if !found {
				less = append(less, p)
			}
		}
		for _, q := range b {
			if !slices.ContainsFunc(a, func(p api.Point) bool { return lset.Get(p.Set, "a") == lset.Get(q.Set, "a") }) {
				or = append(or, q)
			}
		}
		check := func(name string, want, got []api.Point, err api.Errno) {
			t.Helper()
			if !vec.Same(vec.Sort(want), got) || err != api.OK {
				t.Fatal(name, told(a), told(b), told(got), err)
			}
		}
		got, err := vec.Math(api.XAdd, a, b)
		check("Math", sums, got, err)
		got, err = vec.Filter(api.XGt, a, b)
		check("Filter", above, got, err)
		got, err = vec.Logic(api.XAnd, a, b)
		check("and", both, got, err)
		got, err = vec.Logic(api.XUnless, a, b)
		check("unless", less, got, err)
		got, err = vec.Logic(api.XOr, a, b)
		check("or", or, got, err)
	}
}

// spoil writes over all of l, the room behind it, too.
func spoil[T any](l []T, mark T) {
	l = l[:cap(l)]
	for i := range l {
		l[i] = mark
	}
}

func TestNewMemory(t *testing.T) {
	text := `{b="1"}:3 {a="x",name="m"}:1`
	a, b := vector(t, text+` {c="1"}:9`)[:2], vector(t, text+` {c="1"}:9`)[:2]
	for i := range a {
		a[i].Set = append(a[i].Set, api.Label{Name: "z", Value: "z"})[:len(a[i].Set)]
	}
	calls := map[string]func() []api.Point{
		"Sort":    func() []api.Point { return vec.Sort(a) },
		"Math":    func() []api.Point { l, _ := vec.Math(api.XAdd, a, b); return l },
		"Scale":   func() []api.Point { l, _ := vec.Scale(api.XAdd, a, 1, false); return l },
		"Filter":  func() []api.Point { l, _ := vec.Filter(api.XEq, a, b); return l },
		"Above":   func() []api.Point { return vec.Above(api.XGt, a, 0) },
		"and":     func() []api.Point { l, _ := vec.Logic(api.XAnd, a, b); return l },
		"or":      func() []api.Point { l, _ := vec.Logic(api.XOr, a, nil); return l },
		"or b":    func() []api.Point { l, _ := vec.Logic(api.XOr, nil, a); return l },
		"unless":  func() []api.Point { l, _ := vec.Logic(api.XUnless, a, nil); return l },
		"Group":   func() []api.Point { l, _ := vec.Group(api.XSum, []string{"a", "b", "name"}, a); return l },
		"Group 0": func() []api.Point { l, _ := vec.Group(api.XSum, nil, a); return l },
	}
	for name, call := range calls {
		got := call()
		if len(got) == 0 {
			t.Fatal(name, "has no points")
		}
		for i := range got {
			spoil(got[i].Set, api.Label{Name: "spoiled"})
		}
		spoil(got, api.Point{Value: 77})
		if told(a[:3]) != text+` {c="1"}:9` || told(b[:3]) != text+` {c="1"}:9` {
			t.Fatal(name, "shares memory", told(a[:3]), told(b[:3]), len(got))
		}
		for i := range a {
			if spare := a[i].Set[:len(a[i].Set)+1]; spare[len(spare)-1].Name != "z" {
				t.Fatal(name, "writes into the room behind a set")
			}
		}
	}
}
