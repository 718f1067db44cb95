package block_test

import (
	"bytes"
	"math"
	"math/rand"
	"slices"
	"testing"

	"klaxon/api"
	"klaxon/block"
)

// row makes samples of times and values.
func row(ns ...int) []api.Sample {
	var l []api.Sample
	for i := 0; i < len(ns); i += 2 {
		l = append(l, api.Sample{Time: ns[i], Value: ns[i+1]})
	}
	return l
}

func many(n int) []api.Sample {
	var l []api.Sample
	for i := range n {
		l = append(l, api.Sample{Time: i, Value: -i})
	}
	return l
}

func rep(b byte, n int) []byte { return bytes.Repeat([]byte{b}, n) }

func TestNumber(t *testing.T) {
	for _, c := range []struct {
		n    int
		want []byte
	}{
		{0, []byte{0}}, {-1, []byte{1}}, {1, []byte{2}}, {-2, []byte{3}}, {3, []byte{6}}, {5, []byte{10}}, {10, []byte{20}},
		{63, []byte{126}}, {-64, []byte{127}}, {64, []byte{0x80, 1}}, {-65, []byte{0x81, 1}}, {8191, []byte{0xfe, 0x7f}}, {8192, []byte{0x80, 0x80, 1}},
		{math.MaxInt, append([]byte{0xfe}, append(rep(0xff, 8), 1)...)},
		{math.MinInt, append(rep(0xff, 9), 1)},
		{1 << 62, append(rep(0x80, 9), 1)},
		{1<<62 - 1, append([]byte{0xfe}, append(rep(0xff, 7), 0x7f)...)},
	} {
		if got := block.Number(c.n); !bytes.Equal(got, c.want) {
			t.Errorf("Number(%d) = %x, want %x", c.n, got, c.want)
		}
		for _, tail := range [][]byte{nil, {0}, {0xff, 0xff}} {
			if n, used := block.Next(append(slices.Clone(c.want), tail...)); n != c.n || used != len(c.want) {
				t.Errorf("Next(%x) = %d, %d", c.want, n, used)
			}
		}
	}
	if got := block.Number(); len(got) != 0 {
		t.Error("of none", got)
	}
	if got := block.Number(3, 64, 0, -1); !bytes.Equal(got, []byte{6, 0x80, 1, 0, 1}) {
		t.Error("of four", got)
	}
}

func TestNextNone(t *testing.T) {
	for _, b := range [][]byte{
		nil, {}, {0x80}, {0xff}, {0x80, 0}, {0xff, 0}, {0x80, 0x80}, {0x80, 0x80, 0}, {0x81, 0x80, 0x80, 0, 1},
		rep(0xff, 9), rep(0xff, 10), rep(0x80, 12), append(rep(0xff, 9), 2), append(rep(0xff, 9), 0), append(rep(0xff, 9), 3), append(rep(0xff, 9), 0x81, 0), append(rep(0x80, 9), 0x7f), append(rep(0x80, 10), 1),
	} {
		if n, used := block.Next(b); n != 0 || used != 0 {
			t.Errorf("Next(%x) = %d, %d", b, n, used)
		}
	}
}

func TestPut(t *testing.T) {
	for _, c := range []struct {
		l    []api.Sample
		want []byte
	}{
		{row(10, 5, 20, 7, 30, 7), []byte{6, 20, 10, 0, 4, 0, 0}},
		{nil, []byte{0}},
		{row(0, 0), []byte{2, 0, 0}},
		{row(5, -1, 6, -3), []byte{4, 10, 1, 7, 3}},
		{row(1, 0, 101, 0, 102, 0), []byte{6, 2, 0, 0xc6, 1, 0, 0xc5, 1, 0}},
		// From the greatest int to the least one it goes round: one up.
		{row(0, math.MaxInt, 1, math.MinInt), append(append([]byte{4, 0, 0xfe}, append(rep(0xff, 8), 1)...), 2, 2)},
	} {
		if got := block.Put(c.l); !bytes.Equal(got, c.want) {
			t.Errorf("Put(%v) = %v, want %v", c.l, got, c.want)
		}
	}
	for _, l := range [][]api.Sample{row(-1, 0), row(api.MaxTime+1, 0), row(1, 0, 1, 0), row(2, 0, 1, 0), row(0, 0, math.MinInt, 0), row(math.MaxInt, 0), many(201), row(1, 0, 2, 0, 2, 0)} {
		if got := block.Put(l); len(got) != 0 {
			t.Errorf("Put of what no series may hold: %v", got)
		}
	}
	for _, l := range [][]api.Sample{row(api.MaxTime, 1), row(0, 1, api.MaxTime, 1), many(200)} {
		if got, err := block.Get(block.Put(l)); err != api.OK || !slices.Equal(got, l) {
			t.Error("Get of Put", got, err)
		}
	}
}

func TestGetBack(t *testing.T) {
	dice := rand.New(rand.NewSource(5))
	values := []int{0, 1, -1, 63, 64, math.MaxInt, math.MinInt, math.MinInt + 1, 1 << 40}
	for range 500 {
		var l []api.Sample
		at := -1
		for range dice.Intn(9) {
			at += 1 + dice.Intn(1<<dice.Intn(38))
			l = append(l, api.Sample{Time: at, Value: values[dice.Intn(len(values))]})
		}
		got, err := block.Get(block.Put(l))
		if err != api.OK || !slices.Equal(got, l) {
			t.Fatal(l, got, err)
		}
	}
}

// Whatever bytes there are: they are none, or just what Put makes of what is got.
func TestNothingElse(t *testing.T) {
	check := func(b []byte) {
		l, err := block.Get(b)
		switch {
		case err == api.OK && !bytes.Equal(block.Put(l), b):
			t.Errorf("Get(%v) = %v", b, l)
		case err != api.OK && (err != api.ErrForm || len(l) != 0):
			t.Errorf("Get(%v) = %v, %v", b, l, err)
		}
	}
	for _, b := range [][]byte{
		nil, {}, {1}, {2}, {2, 0}, {2, 0, 0, 0}, {0, 0}, {0x80, 0}, {2, 0x80, 0, 0}, {2, 0, 0x80, 0}, {2, 0x80}, {2, 1, 0}, {4, 2, 0, 1, 0}, {4, 2, 0, 3, 0},
		{6, 20, 10, 0, 4, 0}, {6, 20, 10, 0, 4, 0, 0, 0}, block.Put(many(200))[1:],
		append(block.Number(201), block.Put(many(200))[2:]...), block.Number(-1), block.Number(math.MaxInt), block.Number(math.MinInt), block.Number(1, api.MaxTime+1, 0),
		block.Number(1, -1, 0), block.Number(2, math.MaxInt, 0, math.MaxInt, 0), block.Number(2, 1, 0, -1, 0), block.Number(3, 1, 0, math.MinInt, 0, math.MinInt, 0),
		append(block.Number(201), rep(0, 402)...), append(block.Number(201, 0, 0), bytes.Repeat([]byte{2, 0}, 200)...),
	} {
		if l, err := block.Get(b); err != api.ErrForm || len(l) != 0 {
			t.Errorf("Get(%v) = %v, %v", b, l, err)
		}
	}
	dice := rand.New(rand.NewSource(55))
	for range 5000 {
		b := make([]byte, dice.Intn(9))
		for i := range b {
			b[i] = []byte{0, 1, 2, 3, 4, 6, 0x80, 0x81, 0xff, byte(dice.Intn(256))}[dice.Intn(10)]
		}
		check(b)
	}
	for a := range 256 {
		for b := range 256 {
			check([]byte{2, byte(a), byte(b)})
		}
	}
}

func TestMemory(t *testing.T) {
	l := append(row(1, 2, 3, 4), row(9, 9)...)
	b := block.Put(l[:2])
	b2 := append(slices.Clone(b), 9)
	got, _ := block.Get(b2[:len(b)])
	got[0].Value = 7
	got = append(got, row(7, 7)...)
	block.Next(b2[:1])
	if !slices.Equal(l, row(1, 2, 3, 4, 9, 9)) || !bytes.Equal(b2, append(slices.Clone(b), 9)) {
		t.Error("what was handed in was changed")
	}
	if again, _ := block.Get(b); !slices.Equal(again, l[:2]) {
		t.Error("what is answered is kept", again)
	}
}
