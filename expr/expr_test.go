package expr_test

import (
	"fmt"
	"math"
	"math/rand"
	"slices"
	"strings"
	"testing"

	"klaxon/api"
	"klaxon/expr"
	"klaxon/lex"
)

func num(n int) api.Expr { return api.Expr{Kind: api.XNum, N: n} }

func pick(n int, ms ...api.Matcher) api.Expr { return api.Expr{Kind: api.XPick, N: n, Ms: ms} }

func two(kind int, a, b api.Expr) api.Expr { return api.Expr{Kind: kind, Kids: []api.Expr{a, b}} }

func one(kind int, kid api.Expr, names ...string) api.Expr {
	return api.Expr{Kind: kind, Names: names, Kids: []api.Expr{kid}}
}

func eq(name, value string) api.Matcher {
	return api.Matcher{Name: name, Value: value, Kind: api.MEq}
}

// nested is an expression of that depth.
func nested(deep int) api.Expr {
	x := pick(5)
	for range deep - 1 {
		x = two(api.XAdd, x, num(1))
	}
	return x
}

// told is all that is in x.
func told(x api.Expr) string { return fmt.Sprintf("%+v", x) }

var (
	v     = pick(5)
	long  = strings.Repeat("a", api.MaxText)
	names = []string{"a", "b", "c", "d", "e", "f", "g"}
)

func TestDeep(t *testing.T) {
	for _, c := range []struct {
		x    api.Expr
		want int
	}{
		{api.Expr{}, 1}, {num(1), 1}, {v, 1}, {two(api.XAdd, v, v), 2}, {one(api.XSum, two(api.XGt, v, num(1))), 3},
		{two(api.XAdd, v, nested(4)), 5}, {two(api.XAdd, nested(4), v), 5}, {nested(8), 8}, {nested(9), 9}, {nested(500), 500},
		{api.Expr{Kind: api.XNum, Kids: []api.Expr{v, nested(3), v}}, 4},
	} {
		if got := expr.Deep(c.x); got != c.want {
			t.Error("Deep", c.want, got)
		}
	}
}

func TestTypeOfLeaves(t *testing.T) {
	ms := []api.Matcher{eq("a", "x")}
	for _, c := range []struct {
		x    api.Expr
		want int
	}{
		{num(0), expr.Number}, {num(math.MinInt), expr.Number},
		{api.Expr{Kind: api.XNum, Ms: ms}, expr.None},
		{api.Expr{Kind: api.XNum, Names: []string{"a"}}, expr.None},
		{api.Expr{Kind: api.XNum, Kids: []api.Expr{v}}, expr.None},
		{api.Expr{Kind: api.XNum, Ms: []api.Matcher{}, Names: []string{}, Kids: []api.Expr{}}, expr.Number},
		{pick(1), expr.Vector}, {pick(api.MaxSpan), expr.Vector}, {pick(0), expr.None}, {pick(-1), expr.None}, {pick(api.MaxSpan + 1), expr.None},
		{pick(5, ms...), expr.Vector}, {pick(5, eq("A", "x")), expr.None}, {pick(5, slices.Repeat(ms, 6)...), expr.Vector}, {pick(5, slices.Repeat(ms, 7)...), expr.None},
		{pick(5, api.Matcher{Name: "a", Kind: 9}), expr.None},
		{api.Expr{Kind: api.XPick, N: 5, Names: []string{"a"}}, expr.None},
		{api.Expr{Kind: api.XPick, N: 5, Kids: []api.Expr{v}}, expr.None},
		{api.Expr{}, expr.None}, {api.Expr{Kind: -1}, expr.None}, {api.Expr{Kind: api.XCount + 1, Kids: []api.Expr{v}}, expr.None}, {api.Expr{Kind: api.XCount + 1, Kids: []api.Expr{v, v}}, expr.None},
	} {
		if got := expr.Type(c.x); got != c.want {
			t.Error("Type", told(c.x), got)
		}
	}
}

func TestTypeOfTwo(t *testing.T) {
	kids := []api.Expr{num(1), v, {}}
	types := []int{expr.Number, expr.Vector, expr.None}
	for kind := api.XAdd; kind <= api.XUnless; kind++ {
		for i, a := range kids {
			for j, b := range kids {
				want := expr.None
				switch {
				case types[i] == expr.None || types[j] == expr.None:
				case kind <= api.XMod && types[i] == expr.Number && types[j] == expr.Number:
					want = expr.Number
				case kind <= api.XMod:
					want = expr.Vector
				case kind <= api.XGe && types[i] == expr.Vector:
					want = expr.Vector
				case kind >= api.XAnd && types[i] == expr.Vector && types[j] == expr.Vector:
					want = expr.Vector
				}
				if got := expr.Type(two(kind, a, b)); got != want {
					t.Error("Type", kind, i, j, got)
				}
			}
		}
		good := two(kind, v, v)
		for name, spoil := range map[string]func(x *api.Expr){
			"Ms":    func(x *api.Expr) { x.Ms = []api.Matcher{eq("a", "x")} },
			"N":     func(x *api.Expr) { x.N = 1 },
			"Names": func(x *api.Expr) { x.Names = []string{"a"} },
			"one":   func(x *api.Expr) { x.Kids = x.Kids[:1] },
			"none":  func(x *api.Expr) { x.Kids = nil },
			"three": func(x *api.Expr) { x.Kids = []api.Expr{v, v, v} },
		} {
			x := good
			spoil(&x)
			if got := expr.Type(x); got != expr.None {
				t.Error("Type with", name, kind, got)
			}
		}
	}
}

func TestTypeOfOne(t *testing.T) {
	for kind := api.XSum; kind <= api.XCount; kind++ {
		for _, x := range []api.Expr{one(kind, v), one(kind, v, "a"), one(kind, v, names[:6]...), one(kind, one(kind, v), "b", "a"), one(kind, v, long)} {
			if got := expr.Type(x); got != expr.Vector {
				t.Error("Type", told(x), got)
			}
		}
		for _, x := range []api.Expr{
			one(kind, num(1)), one(kind, api.Expr{}), one(kind, v, names...), one(kind, v, "a", "a"), one(kind, v, "a", "b", "a"), one(kind, v, "A"), one(kind, v, ""), one(kind, v, long+"a"),
			{Kind: kind}, {Kind: kind, Kids: []api.Expr{v, v}}, {Kind: kind, N: 1, Kids: []api.Expr{v}}, {Kind: kind, Ms: []api.Matcher{eq("a", "x")}, Kids: []api.Expr{v}},
		} {
			if got := expr.Type(x); got != expr.None {
				t.Error("Type", told(x), got)
			}
		}
	}
}

func TestRight(t *testing.T) {
	for _, x := range []api.Expr{v, nested(8), one(api.XSum, nested(7)), two(api.XGt, v, num(1))} {
		if !expr.Right(x) {
			t.Error("is right:", told(x))
		}
	}
	for _, x := range []api.Expr{{}, num(1), two(api.XAdd, num(1), num(2)), nested(9), nested(1000), pick(0), two(api.XGt, num(1), v), two(api.XAnd, v, num(1))} {
		if expr.Right(x) {
			t.Error("isn't right:", told(x))
		}
	}
}

func TestPrint(t *testing.T) {
	m := pick(10, eq("name", "m"))
	for _, c := range []struct {
		x    api.Expr
		want string
	}{
		{two(api.XGt, one(api.XSum, m, "a"), num(5)), `(sum by (a) ({name="m"}[10]) > 5)`},
		{two(api.XAdd, num(1), num(2)), "(1 + 2)"},
		{num(-5), "-5"},
		{num(math.MinInt), "-9223372036854775808"},
		{v, "{}[5]"},
		{pick(1, eq("b", `"`), api.Matcher{Name: "a", Value: "", Kind: api.MNe}, api.Matcher{Name: "a", Value: "y", Kind: api.MHas}, api.Matcher{Name: "c", Value: `\`, Kind: api.MNot}), `{b="\"",a!="",a^="y",c!^"\\"}[1]`},
		{two(api.XSub, num(1), num(-2)), "(1 - -2)"}, {two(api.XMul, v, num(2)), "({}[5] * 2)"}, {two(api.XDiv, num(2), v), "(2 / {}[5])"}, {two(api.XMod, v, v), "({}[5] % {}[5])"},
		{two(api.XEq, v, v), "({}[5] == {}[5])"}, {two(api.XNe, v, num(1)), "({}[5] != 1)"}, {two(api.XLt, v, num(1)), "({}[5] < 1)"}, {two(api.XLe, v, num(1)), "({}[5] <= 1)"}, {two(api.XGe, v, num(1)), "({}[5] >= 1)"},
		{two(api.XAnd, v, v), "({}[5] and {}[5])"}, {two(api.XOr, v, v), "({}[5] or {}[5])"}, {two(api.XUnless, v, v), "({}[5] unless {}[5])"},
		{one(api.XMin, v), "min by () ({}[5])"}, {one(api.XMax, v, "b", "a"), "max by (b,a) ({}[5])"}, {one(api.XCount, two(api.XAdd, v, num(1)), "by"), "count by (by) (({}[5] + 1))"},
		{nested(8), strings.Repeat("(", 7) + "{}[5]" + strings.Repeat(" + 1)", 7)},
		{nested(9), ""}, {api.Expr{}, ""}, {pick(0), ""}, {two(api.XGt, num(1), v), ""}, {api.Expr{Kind: api.XNum, Kids: []api.Expr{v}}, ""},
	} {
		if got := expr.Print(c.x); got != c.want {
			t.Errorf("Print(%s) = %q, want %q", told(c.x), got, c.want)
		}
		if c.want == "" {
			continue
		}
		if got, at, err := expr.Parse(c.want); err != api.OK || at != 0 || !expr.Same(got, c.x) {
			t.Errorf("Parse(%q) = %s, %d, %d", c.want, told(got), at, err)
		}
	}
}

// wrong is texts of none, and the bytes at which that shows.
func wrong() []struct {
	s   string
	at  int
	err api.Errno
} {
	open := strings.Repeat("(", 8)
	return []struct {
		s   string
		at  int
		err api.Errno
	}{
		{"", 0, api.ErrForm}, {"  ", 2, api.ErrForm}, {"$", 0, api.ErrForm}, {"(1 $", 3, api.ErrForm}, {`{a="x`, 3, api.ErrForm},
		{"1 2", 2, api.ErrForm}, {"{}[5] {}", 6, api.ErrForm}, {"(1 + 2))", 7, api.ErrForm},
		{"a", 0, api.ErrForm}, {")", 0, api.ErrForm}, {" sumx", 1, api.ErrForm}, {`"x"`, 0, api.ErrForm}, {"by", 0, api.ErrForm}, {"and", 0, api.ErrForm}, {"+", 0, api.ErrForm}, {"[5]", 0, api.ErrForm},
		{"(", 1, api.ErrForm}, {"(1", 2, api.ErrForm}, {"(1 ", 3, api.ErrForm}, {"(1 +", 4, api.ErrForm}, {"(1 + 2", 6, api.ErrForm}, {"(1 + 2 ", 7, api.ErrForm},
		{"()", 1, api.ErrForm}, {"(1)", 2, api.ErrForm}, {"(1 -2)", 3, api.ErrForm}, {"(1 + )", 5, api.ErrForm}, {"(1 + 2 + 3)", 7, api.ErrForm}, {"(1 = 2)", 3, api.ErrForm}, {"(1 by 2)", 3, api.ErrForm}, {"(1 , 2)", 3, api.ErrForm}, {`(1 "+" 2)`, 3, api.ErrForm}, {`({}[5] "and" {}[5])`, 7, api.ErrForm}, {"(1 sum 2)", 3, api.ErrForm},
		{"{", 1, api.ErrForm}, {"{}", 2, api.ErrForm}, {"{} ", 3, api.ErrForm}, {"{}[", 3, api.ErrForm}, {"{}[5", 4, api.ErrForm}, {"{}]", 2, api.ErrForm}, {"{}[]", 3, api.ErrForm}, {"{}[a]", 3, api.ErrForm}, {"{}[5)", 4, api.ErrForm}, {"{}[5 5]", 5, api.ErrForm},
		{"{,}[5]", 1, api.ErrForm}, {`{a="x",}[5]`, 7, api.ErrForm}, {`{a="x" b="y"}[5]`, 7, api.ErrForm}, {`{a="x",,b="y"}[5]`, 7, api.ErrForm}, {`{a}[5]`, 2, api.ErrForm}, {`{a=}[5]`, 3, api.ErrForm}, {`{a=x}[5]`, 3, api.ErrForm}, {`{a=5}[5]`, 3, api.ErrForm}, {`{a=="x"}[5]`, 2, api.ErrForm}, {`{a<"x"}[5]`, 2, api.ErrForm}, {`{"a"="x"}[5]`, 1, api.ErrForm}, {`{5="x"}[5]`, 1, api.ErrForm}, {`{a="x"`, 6, api.ErrForm}, {`{a="x",`, 7, api.ErrForm}, {`{a=`, 3, api.ErrForm}, {`{a`, 2, api.ErrForm}, {`{a "x"}[5]`, 3, api.ErrForm},
		{"sum", 3, api.ErrForm}, {"sum (a) ({}[5])", 4, api.ErrForm}, {"sum by", 6, api.ErrForm}, {"sum by a ({}[5])", 7, api.ErrForm}, {"sum by (", 8, api.ErrForm}, {"sum by (,) ({}[5])", 8, api.ErrForm}, {"sum by (a,) ({}[5])", 10, api.ErrForm}, {"sum by (a b) ({}[5])", 10, api.ErrForm}, {"sum by (5) ({}[5])", 8, api.ErrForm}, {`sum by ("a") ({}[5])`, 8, api.ErrForm}, {"sum by (a", 9, api.ErrForm}, {"sum by (a)", 10, api.ErrForm}, {"sum by (a) {}[5]", 11, api.ErrForm}, {"sum by (a) (", 12, api.ErrForm}, {"sum by (a) ()", 12, api.ErrForm}, {"sum by (a) ({}[5]", 17, api.ErrForm}, {"sum by (a) ({}[5] + 1)", 18, api.ErrForm}, {`"sum" by (a) ({}[5])`, 0, api.ErrForm}, {`sum "by" (a) ({}[5])`, 4, api.ErrForm},
		{open + "1", 8, api.ErrDeep}, {open + "{", 8, api.ErrDeep}, {open + "(", 8, api.ErrDeep}, {open + " sum", 9, api.ErrDeep}, {open + "min", 8, api.ErrDeep}, {open + "max", 8, api.ErrDeep}, {open + "count", 8, api.ErrDeep},
		{open + `"sum"`, 8, api.ErrForm}, {open, 8, api.ErrForm}, {open + " ", 9, api.ErrForm}, {open + ")", 8, api.ErrForm}, {open + "a", 8, api.ErrForm}, {open + "by", 8, api.ErrForm}, {open + `"x"`, 8, api.ErrForm}, {open + "+", 8, api.ErrForm}, {open + "1 $", 10, api.ErrForm},
		{strings.Repeat("(", 7) + "1 + (", 12, api.ErrForm}, {strings.Repeat("(", 7) + "1 + (1", 12, api.ErrDeep}, {strings.Repeat("sum by () (", 8) + "{}[5]", 88, api.ErrDeep}, {"(1 + " + strings.Repeat("sum by () (", 7) + "{}[5]", 82, api.ErrDeep},
		{"{}[0]", 0, api.ErrForm}, {" {}[-1]", 0, api.ErrForm}, {"{}[1048577]", 0, api.ErrForm}, {"(1 > {}[5])", 0, api.ErrForm}, {"(1 and 2)", 0, api.ErrForm}, {"({}[5] and 2)", 0, api.ErrForm}, {"sum by () (1)", 0, api.ErrForm}, {"sum by (a,a) ({}[5])", 0, api.ErrForm}, {"sum by (a,b,c,d,e,f,g) ({}[5])", 0, api.ErrForm}, {`{a="",a="",a="",a="",a="",a="",a=""}[5]`, 0, api.ErrForm}, {"(1 == 1)", 0, api.ErrForm},
		{"(1 > {}[5]) 1", 12, api.ErrForm}, {"(1 > {}[5]", 10, api.ErrForm},
	}
}

func TestParseNone(t *testing.T) {
	for _, c := range wrong() {
		if got, at, err := expr.Parse(c.s); err != c.err || at != c.at || told(got) != told(api.Expr{}) {
			t.Errorf("Parse(%q) = %s, %d, %d; want %d, %d", c.s, told(got), at, err, c.at, c.err)
		}
	}
}

func TestReadNone(t *testing.T) {
	for _, c := range wrong() {
		ts, _, err := lex.Tokens(c.s)
		if err != api.OK {
			continue
		}
		want, size := c.at, 0
		if len(ts) > 0 {
			size = ts[len(ts)-1].At + 1
		}
		// An end is one behind where the last token begins.
		if c.at > 0 && !slices.ContainsFunc(ts, func(x api.Token) bool { return x.At == c.at }) {
			want = size
		}
		if got, at, err := expr.Read(ts); err != c.err || at != want || told(got) != told(api.Expr{}) {
			t.Errorf("Read of %q = %s, %d, %d; want %d, %d", c.s, told(got), at, err, want, c.err)
		}
	}
	if _, at, err := expr.Read(nil); at != 0 || err != api.ErrForm {
		t.Error("Read of none", at, err)
	}
	ts, _, _ := lex.Tokens("alert if (1 +")
	if _, at, err := expr.Read(ts[2:]); at != 13 || err != api.ErrForm {
		t.Error("the end of some", at, err)
	}
	ts, _, _ = lex.Tokens("  ( abc")
	if _, at, err := expr.Read(ts[:1]); at != 3 || err != api.ErrForm {
		t.Error("the end of one", at, err)
	}
	for _, odd := range [][]api.Token{{{}}, {{Kind: 9, Text: "{"}}, {{Kind: api.TSign, Text: "("}, {Kind: -1}}, {{Kind: api.TWord, Text: "("}}, {{Kind: api.TNum, Text: "{"}, {Kind: api.TSign, Text: "}"}}} {
		if got, _, err := expr.Read(odd); err != api.ErrForm || told(got) != told(api.Expr{}) {
			t.Error("Read of what lex made none of", odd, err)
		}
	}
}

func TestBlanks(t *testing.T) {
	for _, c := range []struct {
		s    string
		want api.Expr
	}{
		{"\n( 1+2 )\n", two(api.XAdd, num(1), num(2))},
		{`(sum by(a)({name="m"}[10])>5)`, two(api.XGt, one(api.XSum, pick(10, eq("name", "m")), "a"), num(5))},
		{`{ name = "m" , a !^ "x" } [ 010 ]`, pick(10, eq("name", "m"), api.Matcher{Name: "a", Value: "x", Kind: api.MNot})},
		{"({}[5]and{}[5])", two(api.XAnd, v, v)},
		{"count by (sum , by) ({}[5])", one(api.XCount, v, "sum", "by")},
		{"-0", num(0)},
	} {
		got, at, err := expr.Parse(c.s)
		if err != api.OK || at != 0 || !expr.Same(got, c.want) {
			t.Errorf("Parse(%q) = %s, %d, %d", c.s, told(got), at, err)
		}
		ts, _, _ := lex.Tokens(c.s)
		if got, at, err := expr.Read(ts); err != api.OK || at != 0 || !expr.Same(got, c.want) {
			t.Errorf("Read of %q = %s, %d, %d", c.s, told(got), at, err)
		}
	}
}

// random makes an expression, most of them with a type.
func random(dice *rand.Rand, deep int) api.Expr {
	kinds := []int{api.XNum, api.XPick, api.XPick}
	if deep > 1 {
		kinds = append(kinds, api.XAdd+dice.Intn(14), api.XAdd+dice.Intn(14), api.XAdd+dice.Intn(14), api.XSum+dice.Intn(4), api.XSum+dice.Intn(4))
	}
	x := api.Expr{Kind: kinds[dice.Intn(len(kinds))]}
	switch {
	case x.Kind == api.XNum:
		x.N = []int{0, 1, -1, math.MaxInt, math.MinInt}[dice.Intn(5)]
	case x.Kind == api.XPick:
		x.N = 1 + dice.Intn(20)
		for range dice.Intn(3) {
			x.Ms = append(x.Ms, api.Matcher{Name: names[dice.Intn(3)], Value: []string{"", "x", `"`, `\`, "\n"}[dice.Intn(5)], Kind: 1 + dice.Intn(4)})
		}
	case x.Kind >= api.XSum:
		x.Names = slices.Clone(names[:dice.Intn(3)])
		x.Kids = []api.Expr{random(dice, deep-1)}
	default:
		x.Kids = []api.Expr{random(dice, deep-1), random(dice, deep-1)}
	}
	return x
}

func TestPrintedIsParsed(t *testing.T) {
	dice := rand.New(rand.NewSource(8))
	right := 0
	for range 5000 {
		x := random(dice, 1+dice.Intn(5))
		s := expr.Print(x)
		if (s == "") != (expr.Type(x) == expr.None) {
			t.Fatal("Print", told(x), s)
		}
		ts, _, err := lex.Tokens(s)
		if s == "" || err != api.OK {
			continue
		}
		right++
		for _, text := range []string{s, lex.Join(ts...)} {
			if got, at, err := expr.Parse(text); err != api.OK || at != 0 || !expr.Same(got, x) || told(got) != told(got) || expr.Print(got) != s {
				t.Fatalf("Parse(%q) = %s, %d, %d", text, told(got), at, err)
			}
		}
		// Without one of its tokens it is none: no print of an expression is another one's with one more.
		cut := dice.Intn(len(ts))
		less := append(slices.Clone(ts[:cut]), ts[cut+1:]...)
		if got, _, err := expr.Read(less); err == api.OK && lex.Join(less...) != lex.Join(tokens(expr.Print(got))...) {
			t.Fatalf("Read of %q = %s", lex.Join(less...), told(got))
		}
	}
	if right < 1000 {
		t.Error("too few are right", right)
	}
}

func tokens(s string) []api.Token {
	ts, _, _ := lex.Tokens(s)
	return ts
}

func TestSame(t *testing.T) {
	x := two(api.XAdd, one(api.XSum, pick(5, eq("a", "x")), "a"), num(1))
	other := func(spoil func(y *api.Expr)) api.Expr {
		y, _, _ := expr.Parse(expr.Print(x))
		spoil(&y)
		return y
	}
	if !expr.Same(x, other(func(y *api.Expr) {})) || !expr.Same(api.Expr{}, api.Expr{Ms: []api.Matcher{}, Names: []string{}, Kids: []api.Expr{}}) {
		t.Error("are the same")
	}
	for i, y := range []api.Expr{
		{}, other(func(y *api.Expr) { y.Kind = api.XSub }), other(func(y *api.Expr) { y.N = 1 }), other(func(y *api.Expr) { y.Ms = []api.Matcher{{}} }), other(func(y *api.Expr) { y.Names = []string{""} }),
		other(func(y *api.Expr) { y.Kids = y.Kids[:1] }), other(func(y *api.Expr) { y.Kids[1].N = 2 }), other(func(y *api.Expr) { y.Kids[0].Names[0] = "b" }), other(func(y *api.Expr) { y.Kids[0].Names = nil }),
		other(func(y *api.Expr) { y.Kids[0].Kids[0].Ms[0].Value = "y" }), other(func(y *api.Expr) { y.Kids[0].Kids[0].Ms[0].Name = "b" }), other(func(y *api.Expr) { y.Kids[0].Kids[0].Ms[0].Kind = api.MNe }), other(func(y *api.Expr) { y.Kids[0].Kids[0].N = 6 }),
		other(func(y *api.Expr) { y.Kids[0].Kids[0].Kids = []api.Expr{{}} }),
	} {
		if expr.Same(x, y) || expr.Same(y, x) {
			t.Error("aren't the same", i)
		}
	}
}

// spoil writes over all of l, the room behind it, too.
func spoil[T any](l []T, mark T) {
	l = l[:cap(l)]
	for i := range l {
		l[i] = mark
	}
}

func TestPicks(t *testing.T) {
	x := two(api.XAdd, one(api.XSum, two(api.XAnd, pick(1, eq("a", "x")), pick(2)), "a"), two(api.XMul, num(1), pick(3)))
	check := func(x api.Expr, want ...api.Expr) {
		t.Helper()
		if got := expr.Picks(x); !slices.EqualFunc(got, want, expr.Same) {
			t.Error("Picks", told(x), got)
		}
	}
	check(x, pick(1, eq("a", "x")), pick(2), pick(3))
	check(v, v)
	check(num(1))
	check(api.Expr{})
	check(two(api.XAdd, v, v), v, v)
	check(pick(0), pick(0))
	inner := api.Expr{Kind: api.XPick, N: 1, Kids: []api.Expr{pick(2), num(1), pick(3)}}
	check(api.Expr{Kids: []api.Expr{inner}}, inner, pick(2), pick(3))

	got := expr.Picks(x)
	spoil(got[0].Ms, eq("b", "x"))
	spoil(got, api.Expr{})
	if expr.Picks(x)[0].Ms[0].Value != "x" {
		t.Error("Picks share memory")
	}
	a := api.Expr{Kind: api.XPick, Names: []string{"a"}, Kids: []api.Expr{pick(2, eq("a", "x"))}}
	got = expr.Picks(a)
	got[0].Names[0] = "spoiled"
	got[0].Kids[0].Ms[0].Value = "spoiled"
	if a.Names[0] != "a" || a.Kids[0].Ms[0].Value != "x" || got[1].Ms[0].Value != "x" {
		t.Error("Picks share memory, deeper")
	}
}

func TestNothingPanics(t *testing.T) {
	deep := nested(60000)
	if expr.Right(deep) || expr.Print(deep) != "" || expr.Deep(deep) != 60000 || !expr.Same(deep, deep) || len(expr.Picks(deep)) != 1 || expr.Type(deep) != expr.Vector {
		t.Error("deeply nested")
	}
	if _, at, err := expr.Parse(strings.Repeat("(", 400)); at != 8 || err != api.ErrDeep {
		t.Error("many open", at, err)
	}
	if _, at, err := expr.Parse(strings.Repeat("(", 100000)); at != 400 || err != api.ErrForm {
		t.Error("too many tokens", at, err)
	}
	dice := rand.New(rand.NewSource(88))
	pool := []string{"(", ")", "{", "}", "[", "]", ",", "=", "+", "and", "sum", "by", "a", "5", `"x"`, "!^"}
	for range 20000 {
		var words []string
		for range dice.Intn(9) {
			words = append(words, pool[dice.Intn(len(pool))])
		}
		s := strings.Join(words, " ")
		got, at, err := expr.Parse(s)
		switch {
		case err == api.OK && (at != 0 || lex.Join(tokens(expr.Print(got))...) != lex.Join(tokens(s)...)):
			t.Fatalf("Parse(%q) = %s, %d", s, told(got), at)
		case err != api.OK && (at < 0 || at > len(s) || told(got) != told(api.Expr{})):
			t.Fatalf("Parse(%q) = %s, %d, %d", s, told(got), at, err)
		}
	}
}
