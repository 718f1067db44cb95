package archive_test

import (
	"bytes"
	"fmt"
	"math"
	"math/rand"
	"slices"
	"strconv"
	"testing"

	"klaxon/api"
	"klaxon/archive"
	"klaxon/block"
	"klaxon/disk"
	"klaxon/lset"
	"klaxon/store"
)

func set(t *testing.T, s string) []api.Label {
	t.Helper()
	l, ok := lset.Parse(s)
	if !ok {
		t.Fatal("not a set:", s)
	}
	return l
}

func sample(t, v int) api.Sample { return api.Sample{Time: t, Value: v} }

// told is all that is in a store.
func told(s *store.Store) string {
	text := ""
	for _, l := range s.Sets() {
		text += fmt.Sprint(lset.Print(l), s.Samples(l), ";")
	}
	return text
}

func is(t *testing.T, got, want api.Errno) {
	t.Helper()
	if got != want {
		t.Error("answers", got, "not", want)
	}
}

func open(t *testing.T, d *disk.Disk) *archive.Archive {
	t.Helper()
	a, err := archive.Open(d)
	if err != api.OK || a == nil || a.Bad() {
		t.Fatal("Open", err)
	}
	return a
}

// holding is a disk of these bytes, firm.
func holding(parts ...[]byte) *disk.Disk {
	d := disk.New(api.MaxBytes)
	d.Write(parts...)
	d.Sync()
	return d
}

func sized(b []byte) []byte { return append(block.Number(len(b)), b...) }

func sampleFrame(text string, x api.Sample) []byte {
	return archive.Frame(1, sized([]byte(text)), block.Number(x.Time, x.Value))
}

// spoil writes over all of l, the room behind it, too.
func spoil[T any](l []T, mark T) {
	l = l[:cap(l)]
	for i := range l {
		l[i] = mark
	}
}

func TestFrame(t *testing.T) {
	for _, c := range []struct {
		kind  byte
		parts [][]byte
		want  []byte
	}{
		{7, nil, []byte{2, 7, 0, 7}},
		{0, [][]byte{nil, {}}, []byte{2, 0, 0, 0}},
		{1, [][]byte{{2, 3}, {250}}, []byte{8, 1, 2, 3, 250, 1, 0}},
		{255, [][]byte{bytes.Repeat([]byte{255}, 63)}, append(append([]byte{0x80, 1}, bytes.Repeat([]byte{255}, 64)...), 0x3f, 0xc0)},
	} {
		if got := archive.Frame(c.kind, c.parts...); !bytes.Equal(got, c.want) {
			t.Error("Frame", c.kind, c.parts, got)
		}
	}
	// The sum goes round at 65536.
	long := archive.Frame(2, bytes.Repeat([]byte{255}, 257), []byte{3})
	if tail := long[len(long)-2:]; !bytes.Equal(tail, []byte{0, 4}) {
		t.Error("the sum of many", tail)
	}
	parts := [][]byte{append([]byte{1, 2}, 9)[:2], {3}}
	spoil(archive.Frame(1, parts...), 7)
	if parts[0][:3][2] != 9 || parts[0][0] != 1 {
		t.Error("parts were changed")
	}
}

func TestScan(t *testing.T) {
	a, b := archive.Frame(1, []byte{5, 6}), archive.Frame(9)
	both := slices.Concat(a, b)
	spoiled := func(at int) []byte {
		l := slices.Clone(both)
		l[at]++
		return l
	}
	long := archive.Frame(3, make([]byte, 300))
	for i, c := range []struct {
		b      []byte
		bodies [][]byte
		used   int
	}{
		{nil, nil, 0},
		{both, [][]byte{{1, 5, 6}, {9}}, len(both)},
		{both[:len(both)-1], [][]byte{{1, 5, 6}}, len(a)},
		{both[:len(a)+1], [][]byte{{1, 5, 6}}, len(a)},
		{both[:len(a)-1], nil, 0}, {both[:3], nil, 0}, {both[:1], nil, 0},
		{spoiled(0), nil, 0}, {spoiled(1), nil, 0}, {spoiled(2), nil, 0}, {spoiled(len(a) - 1), nil, 0}, {spoiled(len(a) - 2), nil, 0},
		{spoiled(len(a)), [][]byte{{1, 5, 6}}, len(a)}, {spoiled(len(both) - 1), [][]byte{{1, 5, 6}}, len(a)},
		{slices.Concat(a, []byte{0, 0, 0}, b), [][]byte{{1, 5, 6}}, len(a)},
		{[]byte{0, 0, 0}, nil, 0}, {[]byte{1, 9, 0, 9}, nil, 0}, {[]byte{3, 9, 0, 9}, nil, 0}, {[]byte{0x82, 0, 9, 0, 9}, nil, 0}, {[]byte{0x80}, nil, 0},
		{append(block.Number(math.MaxInt), 1, 0, 1), nil, 0}, {append(block.Number(math.MinInt), 1, 0, 1), nil, 0}, {append(block.Number(-1), 1, 0, 1), nil, 0},
		{[]byte{2, 9, 0, 9, 2, 9, 0, 9, 2, 9, 9, 0}, [][]byte{{9}, {9}}, 8},
		{slices.Concat(long, b), [][]byte{append([]byte{3}, make([]byte, 300)...), {9}}, len(long) + len(b)},
	} {
		bodies, used := archive.Scan(c.b)
		if !slices.EqualFunc(bodies, c.bodies, bytes.Equal) || used != c.used {
			t.Error("Scan", i, bodies, used)
		}
	}
	bodies, _ := archive.Scan(both)
	spoil(bodies[0], 7)
	if !bytes.Equal(bodies[1], []byte{9}) {
		t.Error("bodies share memory")
	}
	spoil(bodies[1], 7)
	spoil(bodies, nil)
	if again, _ := archive.Scan(both); !slices.EqualFunc(again, [][]byte{{1, 5, 6}, {9}}, bytes.Equal) {
		t.Error("Scan shares memory")
	}
}

func TestRun(t *testing.T) {
	d := disk.New(1000)
	a := open(t, d)
	is(t, a.Append(set(t, `{a="x"}`), sample(5, 1)), api.OK)
	is(t, a.Sync(), api.OK)
	is(t, a.Append(set(t, `{a="x"}`), sample(6, 2)), api.OK)
	if told(a.Store()) != `{a="x"}[{5 1} {6 2}];` {
		t.Error(told(a.Store()))
	}
	size := d.Firm()
	d.Boot(3)
	if d.Size() != size+3 {
		t.Error("the crash keeps three bytes", d.Size(), size)
	}
	b := open(t, d)
	if told(b.Store()) != `{a="x"}[{5 1}];` || d.Size() != size {
		t.Error(told(b.Store()), d.Size(), size)
	}
	is(t, b.Append(set(t, `{a="x"}`), sample(6, 3)), api.OK)
	if got := told(open(t, d).Store()); got != `{a="x"}[{5 1} {6 3}];` {
		t.Error(got)
	}
}

func TestBytes(t *testing.T) {
	d := disk.New(1000)
	a := open(t, d)
	if d.Size() != 0 || told(a.Store()) != "" {
		t.Error("an empty disk")
	}
	a.Append(set(t, `{b="\""}`), sample(10, -5))
	a.Append(nil, sample(7, 300))
	want := slices.Concat(sampleFrame(`{b="\""}`, sample(10, -5)), sampleFrame(`{}`, sample(7, 300)))
	if got := d.Read(); !bytes.Equal(got, want) || d.Firm() != 0 {
		t.Error("samples", got, want)
	}
	is(t, a.Seal(), api.OK)
	image := archive.Frame(2, sized([]byte(`{b="\""}`)), sized(block.Put([]api.Sample{sample(10, -5)})), sized([]byte(`{}`)), sized(block.Put([]api.Sample{sample(7, 300)})))
	want = append(want, image...)
	if got := d.Read(); !bytes.Equal(got, want) || d.Firm() != len(want) {
		t.Error("an image", got, want)
	}
	is(t, a.Cut(-300), api.OK)
	is(t, a.Cut(8), api.OK)
	want = slices.Concat(want, archive.Frame(3, block.Number(-300)), archive.Frame(3, block.Number(8)))
	if got := d.Read(); !bytes.Equal(got, want) || d.Firm() != len(want) {
		t.Error("cuts", got, want)
	}
	if told(a.Store()) != `{b="\""}[{10 -5}];` || told(open(t, d).Store()) != told(a.Store()) {
		t.Error("cut", told(a.Store()))
	}
	is(t, a.Cut(math.MaxInt), api.OK)
	is(t, a.Seal(), api.OK)
	want = slices.Concat(want, archive.Frame(3, block.Number(math.MaxInt)), archive.Frame(2))
	if got := d.Read(); !bytes.Equal(got, want) || told(open(t, d).Store()) != "" {
		t.Error("an image of none", got, want)
	}
}

func TestOpenForm(t *testing.T) {
	x := sampleFrame(`{a="x"}`, sample(5, 1))
	series := func(text string, l ...api.Sample) []byte {
		return slices.Concat(sized([]byte(text)), sized(block.Put(l)))
	}
	var many []byte
	for i := range api.MaxSeries + 1 {
		many = append(many, series(`{a="x`+fmt.Sprintf("%02d", i)+`"}`, sample(1, 1))...)
	}
	for i, bad := range [][]byte{
		archive.Frame(0), archive.Frame(4), archive.Frame(255, []byte{1}),
		archive.Frame(1), archive.Frame(1, sized([]byte(`{b="x"}`))), archive.Frame(1, sized([]byte(`{b="x"}`)), block.Number(9)), archive.Frame(1, sized([]byte(`{a="x"}`)), block.Number(9, 1), []byte{0}),
		archive.Frame(1, sized([]byte(`{a="x"} `)), block.Number(9, 1)), archive.Frame(1, sized([]byte(`{b="1",a="2"}`)), block.Number(9, 1)), archive.Frame(1, sized(nil), block.Number(9, 1)), archive.Frame(1, []byte{0x80, 0}, block.Number(9, 1)),
		archive.Frame(1, sized([]byte(`{b="x"}`)), []byte{0x80, 0, 2}), archive.Frame(1, sized([]byte(`{b="x"}`)), []byte{2, 0x80, 0}), archive.Frame(1, block.Number(-1), block.Number(9, 1)), archive.Frame(1, block.Number(math.MaxInt), block.Number(9, 1)), archive.Frame(1, block.Number(8), []byte(`{b="x"}`)),
		sampleFrame(`{a="x"}`, sample(5, 1)), sampleFrame(`{a="x"}`, sample(4, 1)), sampleFrame(`{b="x"}`, sample(-1, 1)), sampleFrame(`{b="x"}`, sample(api.MaxTime+1, 1)), sampleFrame(`{b="x"}`, sample(math.MinInt, 1)),
		archive.Frame(2, series(`{b="1"}`, sample(1, 1)), series(`{a="1"}`, sample(1, 1))), archive.Frame(2, series(`{b="1"}`, sample(1, 1)), series(`{b="1"}`, sample(1, 1))), archive.Frame(2, series(`{b="1"}`, sample(1, 1)), series(`{b="1"}`, sample(2, 1))), archive.Frame(2, series(`{b="1"}`)), archive.Frame(2, series(`{b="1"}`, sample(1, 1)), series(`{c="1"}`)),
		archive.Frame(2, series(`{b=""}`, sample(1, 1))), archive.Frame(2, []byte{0}), archive.Frame(2, series(`{b="1"}`, sample(1, 1)), []byte{0}), archive.Frame(2, sized([]byte(`{b="1"}`))), archive.Frame(2, sized([]byte(`{b="1"}`)), sized([]byte{2, 2, 2, 2})), archive.Frame(2, sized([]byte(`{b="1"}`)), sized(nil)), archive.Frame(2, sized([]byte(`{b="1"}`)), block.Number(-3), []byte{2, 2, 2}), archive.Frame(2, sized([]byte(`{b="1"}`)), []byte{0x86, 0}, []byte{2, 2, 2}),
		archive.Frame(2, many),
		archive.Frame(3), archive.Frame(3, []byte{0x80, 0}), archive.Frame(3, []byte{0, 0}), archive.Frame(3, block.Number(1, 2)), archive.Frame(3, []byte{0x80}),
	} {
		for _, tail := range [][]byte{nil, sampleFrame(`{z="1"}`, sample(9, 9)), {1, 2, 3}} {
			d := holding(x, bad, tail)
			size := d.Size()
			if a, err := archive.Open(d); err != api.ErrForm || a != nil || d.Size() != size {
				t.Error("is no archive:", i, err)
			}
		}
	}
	if got := told(open(t, holding(x, archive.Frame(2, many[:len(many)/33*32]))).Store()); len(got) < 32*10 {
		t.Error("as many series as may be", got)
	}
	// An image is all that there is then.
	good := slices.Concat(x, archive.Frame(2, series(`{b="1"}`, sample(3, 4), sample(9, -1)), series(`{}`, sample(0, 0))), sampleFrame(`{a="x"}`, sample(2, 2)), archive.Frame(3, block.Number(1)))
	if got := told(open(t, holding(good)).Store()); got != `{a="x"}[{2 2}];{b="1"}[{3 4} {9 -1}];` {
		t.Error(got)
	}
}

func TestOpenBack(t *testing.T) {
	x := sampleFrame(`{a="x"}`, sample(5, 1))
	y := sampleFrame(`{a="x"}`, sample(6, 1))
	for cut := range len(y) {
		d := holding(x, y[:cut])
		if got := told(open(t, d).Store()); got != `{a="x"}[{5 1}];` || d.Size() != len(x) {
			t.Error("what stands behind the frames goes", cut, got, d.Size())
		}
		d = holding(x, y[:cut])
		d.Arm(0)
		a, err := archive.Open(d)
		if cut == 0 && (err != api.OK || d.Off()) {
			t.Error("there is nothing behind them", err)
		}
		if cut > 0 && (err != api.ErrDown || a != nil || !d.Off()) {
			t.Error("Back's error", cut, err)
		}
		if _, err := archive.Open(d); cut > 0 && err != api.ErrDown {
			t.Error("without power", err)
		}
	}
	// A body that is none is told ahead of what stands behind.
	d := holding(archive.Frame(9), y[:3])
	d.Arm(0)
	if a, err := archive.Open(d); err != api.ErrForm || a != nil || d.Off() {
		t.Error(err)
	}
	d = holding(x)
	d.Arm(0)
	d.Sync()
	if a, err := archive.Open(d); err != api.ErrDown || a != nil {
		t.Error("the power is off", err)
	}
}

func TestAppend(t *testing.T) {
	d := disk.New(1000)
	a := open(t, d)
	is(t, a.Append(set(t, `{a="x"}`), sample(5, 1)), api.OK)
	size, was := d.Size(), told(a.Store())
	for _, c := range []struct {
		set  []api.Label
		x    api.Sample
		want api.Errno
	}{
		{set(t, `{a="x"}`), sample(5, 1), api.ErrOrder}, {set(t, `{a="x"}`), sample(-1, 1), api.ErrForm}, {[]api.Label{{Name: "A"}}, sample(9, 1), api.ErrForm},
	} {
		is(t, a.Append(c.set, c.x), c.want)
		if d.Size() != size || told(a.Store()) != was || a.Bad() {
			t.Error("a refused call changes nothing", c.set, c.x)
		}
	}
	many := disk.New(api.MaxBytes)
	b := open(t, many)
	for i := range api.MaxSeries {
		is(t, b.Append(set(t, `{a="`+strconv.Itoa(i)+`"}`), sample(5, 1)), api.OK)
	}
	is(t, b.Append(set(t, `{a="x"}`), sample(5, 1)), api.ErrFull)
	if b.Bad() || len(b.Store().Sets()) != api.MaxSeries {
		t.Error("a full store")
	}
}

func TestFull(t *testing.T) {
	frame := sampleFrame(`{a="x"}`, sample(5, 1))
	d := disk.New(len(frame) + 3)
	a := open(t, d)
	is(t, a.Append(set(t, `{a="x"}`), sample(5, 1)), api.OK)
	for range 2 {
		is(t, a.Append(set(t, `{a="x"}`), sample(6, 1)), api.ErrFull)
		is(t, a.Seal(), api.ErrFull)
		is(t, a.Cut(9), api.ErrFull)
		if a.Bad() || told(a.Store()) != `{a="x"}[{5 1}];` || !bytes.Equal(d.Read(), frame) || d.Firm() != 0 {
			t.Error("a full disk changes nothing", told(a.Store()))
		}
	}
	is(t, a.Sync(), api.OK)
	if d.Firm() != len(frame) {
		t.Error("Sync")
	}
}

func TestBad(t *testing.T) {
	image := len(archive.Frame(2, sized([]byte(`{a="x"}`)), sized(block.Put([]api.Sample{sample(5, 1)}))))
	cut := len(archive.Frame(3, block.Number(9)))
	y := len(sampleFrame(`{a="x"}`, sample(6, 1)))
	for i, c := range []struct {
		fuse int
		do   func(a *archive.Archive) api.Errno
		ok   bool
	}{
		{y - 1, func(a *archive.Archive) api.Errno { return a.Append(set(t, `{a="x"}`), sample(6, 1)) }, false},
		{0, func(a *archive.Archive) api.Errno { return a.Append(set(t, `{a="x"}`), sample(6, 1)) }, false},
		{0, func(a *archive.Archive) api.Errno { return a.Sync() }, false},
		{image, func(a *archive.Archive) api.Errno { return a.Seal() }, false},
		{image - 1, func(a *archive.Archive) api.Errno { return a.Seal() }, false},
		{cut, func(a *archive.Archive) api.Errno { return a.Cut(9) }, false},
		{cut - 1, func(a *archive.Archive) api.Errno { return a.Cut(9) }, false},
		{image + 1, func(a *archive.Archive) api.Errno { return a.Seal() }, true},
		{cut + 1, func(a *archive.Archive) api.Errno { return a.Cut(4) }, true},
		{y, func(a *archive.Archive) api.Errno { return a.Append(set(t, `{a="y"}`), sample(6, 1)) }, true},
		{1, func(a *archive.Archive) api.Errno { return a.Sync() }, true},
	} {
		d := disk.New(1000)
		a := open(t, d)
		a.Append(set(t, `{a="x"}`), sample(5, 1))
		a.Sync()
		d.Arm(c.fuse)
		was := told(a.Store())
		err := c.do(a)
		if a.Bad() == c.ok || (err == api.OK) != c.ok || d.Off() == c.ok {
			t.Error(i, err, a.Bad(), d.Off())
		}
		if c.ok {
			continue
		}
		is(t, err, api.ErrDown)
		// Then all do, till it is opened anew; with power again, too.
		d.Boot(0)
		size := d.Size()
		for _, got := range []api.Errno{a.Append(set(t, `{a="x"}`), sample(7, 1)), a.Append(nil, sample(-1, 1)), a.Sync(), a.Seal(), a.Cut(9)} {
			is(t, got, api.ErrDown)
		}
		if !a.Bad() || told(a.Store()) != was || d.Size() != size {
			t.Error("a bad archive does nothing", i, told(a.Store()))
		}
		b := open(t, d)
		is(t, b.Append(set(t, `{a="x"}`), sample(7, 1)), api.OK)
	}
	// The store's error is told ahead of the disk's.
	d := disk.New(1000)
	a := open(t, d)
	a.Append(set(t, `{a="x"}`), sample(5, 1))
	d.Arm(0)
	d.Sync()
	is(t, a.Append(set(t, `{a="x"}`), sample(5, 1)), api.ErrOrder)
	if a.Bad() {
		t.Error("it wasn't ErrDown")
	}
	is(t, a.Append(set(t, `{a="x"}`), sample(6, 1)), api.ErrDown)
	is(t, a.Append(set(t, `{a="x"}`), sample(5, 1)), api.ErrDown)
}

func TestStoreIsCopy(t *testing.T) {
	a := open(t, disk.New(1000))
	l := set(t, `{a="x"}`)
	a.Append(l, sample(5, 1))
	l[0].Value = "spoiled"
	s := a.Store()
	s.Put(set(t, `{a="y"}`), sample(5, 1))
	s.Cut(99)
	if told(a.Store()) != `{a="x"}[{5 1}];` {
		t.Error("what is answered, or handed in, is kept", told(a.Store()))
	}
	s = a.Store()
	a.Append(set(t, `{a="x"}`), sample(6, 1))
	a.Cut(6)
	if told(s) != `{a="x"}[{5 1}];` || told(a.Store()) != `{a="x"}[{6 1}];` {
		t.Error("a copy is touched", told(s), told(a.Store()))
	}
}

// Behind a crash at any moment, whatever stays: all that was synced, and of what wasn't a beginning, in order.
func TestCrash(t *testing.T) {
	acts := func(dice *rand.Rand) []func(a *archive.Archive) (err api.Errno, firm bool) {
		var l []func(a *archive.Archive) (api.Errno, bool)
		for i := range 12 {
			text, x, before := []string{`{a="x"}`, `{}`, `{b="1"}`}[dice.Intn(3)], sample(10*i+dice.Intn(9), dice.Intn(300)), 10*i-dice.Intn(40)
			switch dice.Intn(7) {
			case 0:
				l = append(l, func(a *archive.Archive) (api.Errno, bool) { return a.Seal(), true })
			case 1:
				l = append(l, func(a *archive.Archive) (api.Errno, bool) { return a.Cut(before), true })
			case 2:
				l = append(l, func(a *archive.Archive) (api.Errno, bool) { return a.Sync(), true })
			default:
				l = append(l, func(a *archive.Archive) (api.Errno, bool) { return a.Append(set(t, text), x), false })
			}
		}
		return l
	}
	for seed := range int64(12) {
		list := acts(rand.New(rand.NewSource(seed)))
		// The states that there were without a crash.
		calm := disk.New(api.MaxBytes)
		a := open(t, calm)
		states := []string{""}
		for _, act := range list {
			if err, _ := act(a); err != api.OK {
				t.Fatal("without a crash", err)
			}
			states = append(states, told(a.Store()))
		}
		for fuse := range calm.Size() + 20 {
			for _, keep := range []int{0, 1, 3, 7, 20, 1000} {
				d := disk.New(api.MaxBytes)
				a := open(t, d)
				d.Arm(fuse)
				done, synced := 0, 0
				for _, act := range list {
					err, firm := act(a)
					if err != api.OK {
						break
					}
					done++
					if firm {
						synced = done
					}
				}
				d.Boot(keep)
				b := open(t, d)
				got := told(b.Store())
				// The act at which the power went may have been written, too.
				last := min(done+1, len(list))
				if !slices.Contains(states[synced:last+1], got) {
					t.Fatal("seed", seed, "fuse", fuse, "keep", keep, "done", done, "synced", synced, got)
				}
				if keep == 0 && got != states[synced] && !a.Bad() {
					t.Fatal("nothing stays of what wasn't synced", got, states[synced])
				}
				is(t, b.Append(set(t, `{z="1"}`), sample(1, 1)), api.OK)
				if again := open(t, d); told(again.Store()) != told(b.Store()) {
					t.Fatal("opened anew it is the same", told(again.Store()), told(b.Store()))
				}
			}
		}
	}
}

// Of any bytes: an archive, or ErrForm.
func TestAnyBytes(t *testing.T) {
	dice := rand.New(rand.NewSource(23))
	good := slices.Concat(sampleFrame(`{a="x"}`, sample(5, 1)), archive.Frame(2, sized([]byte(`{}`)), sized(block.Put([]api.Sample{sample(1, 2)}))), archive.Frame(3, block.Number(1)))
	for range 20000 {
		b := slices.Clone(good)
		for range 1 + dice.Intn(4) {
			b[dice.Intn(len(b))] = byte(dice.Intn(256))
		}
		a, err := archive.Open(holding(b[:dice.Intn(len(b)+1)]))
		if (err == api.OK) != (a != nil) || err != api.OK && err != api.ErrForm {
			t.Fatal(b, err)
		}
	}
	for range 20000 {
		body := make([]byte, dice.Intn(12))
		for i := range body {
			body[i] = []byte{0, 2, 4, 6, 0x80, '{', '}', byte(dice.Intn(256))}[dice.Intn(8)]
		}
		frame := archive.Frame(byte(1+dice.Intn(3)), body)
		a, err := archive.Open(holding(frame))
		if err == api.ErrForm {
			continue
		}
		// A body is one of these only if it is just the bytes that this kind has of what it tells.
		if frame[1] == 2 {
			d := disk.New(1000)
			again := open(t, d)
			for _, l := range a.Store().Sets() {
				for _, x := range a.Store().Samples(l) {
					again.Append(l, x)
				}
			}
			size := d.Size()
			again.Seal()
			if !bytes.Equal(d.Read()[size:], frame) {
				t.Fatal("another image", frame, d.Read()[size:])
			}
		}
	}
}
