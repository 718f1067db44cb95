package num_test

import (
	"math"
	"math/big"
	"testing"

	"klaxon/api"
	"klaxon/num"
)

const (
	most  = math.MaxInt
	least = math.MinInt
)

// edges are the ints near which a checked reckoning may go wrong.
func edges() []int {
	l := []int{0, 1, 2, 3, 5, 7, 10, 3037000499, 3037000500, 1 << 31, 1 << 32, 1<<32 - 1, 1 << 61, 1 << 62, 1<<62 + 1, most - 1, most}
	for _, n := range l {
		l = append(l, -n)
	}
	return append(l, least, least+1, least/2, least/2-1)
}

// told is what an exact result comes to as an int.
func told(x *big.Int) (int, api.Errno) {
	if !x.IsInt64() {
		return 0, api.ErrOver
	}
	return int(x.Int64()), api.OK
}

func TestTwoAgainstExact(t *testing.T) {
	calls := []struct {
		name  string
		call  func(a, b int) (int, api.Errno)
		exact func(z, a, b *big.Int) *big.Int
		zero  bool
	}{
		{"Add", num.Add, (*big.Int).Add, false},
		{"Sub", num.Sub, (*big.Int).Sub, false},
		{"Mul", num.Mul, (*big.Int).Mul, false},
		{"Div", num.Div, (*big.Int).Quo, true},
		{"Mod", num.Mod, (*big.Int).Rem, true},
	}
	for _, c := range calls {
		for _, a := range edges() {
			for _, b := range edges() {
				want, wantErr := 0, api.ErrZero
				if b != 0 || !c.zero {
					want, wantErr = told(c.exact(new(big.Int), big.NewInt(int64(a)), big.NewInt(int64(b))))
				}
				if got, err := c.call(a, b); got != want || err != wantErr {
					t.Errorf("%s(%d, %d) = %d, %d; want %d, %d", c.name, a, b, got, err, want, wantErr)
				}
			}
		}
	}
}

func TestRuns(t *testing.T) {
	if n, err := num.Add(most, 1); n != 0 || err != api.ErrOver {
		t.Error("Add", n, err)
	}
	if n, err := num.Div(-7, 2); n != -3 || err != api.OK {
		t.Error("Div", n, err)
	}
	if n, err := num.Mod(-7, 2); n != -1 || err != api.OK {
		t.Error("Mod", n, err)
	}
	if n, err := num.Mod(least, -1); n != 0 || err != api.OK {
		t.Error("Mod of the least int", n, err)
	}
	if n := num.Up(7, 3); n != 3 {
		t.Error("Up", n)
	}
}

func TestZero(t *testing.T) {
	for _, a := range edges() {
		if n, err := num.Div(a, 0); n != 0 || err != api.ErrZero {
			t.Error("Div", a, n, err)
		}
		if n, err := num.Mod(a, 0); n != 0 || err != api.ErrZero {
			t.Error("Mod", a, n, err)
		}
	}
}

func TestSum(t *testing.T) {
	for _, c := range []struct {
		l    []int
		want int
		err  api.Errno
	}{
		{nil, 0, api.OK},
		{[]int{}, 0, api.OK},
		{[]int{least}, least, api.OK},
		{[]int{1, -2, 3}, 2, api.OK},
		{[]int{most, 1, -1}, 0, api.ErrOver},
		{[]int{most, -1, 1}, most, api.OK},
		{[]int{least, 1, -2}, 0, api.ErrOver},
		{[]int{1, 2, most}, 0, api.ErrOver},
		{[]int{least, most, 1}, 0, api.OK},
	} {
		given := append([]int{}, c.l...)
		if got, err := num.Sum(c.l...); got != c.want || err != c.err {
			t.Error(c.l, got, err)
		}
		for i := range given {
			if c.l[i] != given[i] {
				t.Error("the list was changed", c.l)
			}
		}
	}
}

func TestUp(t *testing.T) {
	for _, c := range [][3]int{
		{0, 1, 0}, {0, 3, 0}, {1, 3, 1}, {2, 3, 1}, {3, 3, 1}, {4, 3, 2}, {6, 3, 2}, {7, 3, 3},
		{most, 1, most}, {most, 2, 1 << 62}, {most, most, 1}, {most - 1, most, 1}, {1, most, 1},
		{-1, 1, 0}, {-1, 2, 0}, {-2, 1, 0}, {-1, 3, 0}, {-7, 3, 0}, {least, 1, 0}, {7, 0, 0}, {7, -3, 0}, {7, least, 0}, {-7, -3, 0}, {0, 0, 0},
	} {
		if got := num.Up(c[0], c[1]); got != c[2] {
			t.Errorf("Up(%d, %d) = %d, want %d", c[0], c[1], got, c[2])
		}
	}
}
