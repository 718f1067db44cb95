package disk_test

import (
	"bytes"
	"math"
	"math/rand"
	"slices"
	"testing"

	"klaxon/api"
	"klaxon/disk"
)

// state is all that a disk tells.
type state struct {
	size, firm int
	off        bool
	bytes      string
}

func of(d *disk.Disk) state {
	return state{d.Size(), d.Firm(), d.Off(), string(d.Read())}
}

func want(t *testing.T, d *disk.Disk, size, firm int, off bool, text string) {
	t.Helper()
	if got := of(d); got != (state{size, firm, off, text}) {
		t.Errorf("%+v", got)
	}
}

func is(t *testing.T, got, want api.Errno) {
	t.Helper()
	if got != want {
		t.Error("answers", got, "not", want)
	}
}

func TestRun(t *testing.T) {
	d := disk.New(100)
	d.Arm(3)
	is(t, d.Write([]byte{1, 2}, []byte{3, 4}), api.ErrDown)
	if d.Size() != 3 || !d.Off() || len(d.Read()) != 0 || d.Firm() != 0 {
		t.Error(of(d))
	}
	d.Boot(2)
	want(t, d, 2, 2, false, "\x01\x02")
}

func TestRoom(t *testing.T) {
	for room, most := range map[int]int{math.MinInt: 0, -1: 0, 0: 0, 1: 1, 7: 7, api.MaxBytes: api.MaxBytes, api.MaxBytes + 1: api.MaxBytes, math.MaxInt: api.MaxBytes} {
		d := disk.New(room)
		want(t, d, 0, 0, false, "")
		all := make([]byte, most+1)
		is(t, d.Write(all), api.ErrFull)
		is(t, d.Write(all[:1], all[1:]), api.ErrFull)
		want(t, d, 0, 0, false, "")
		is(t, d.Write(all[1:]), api.OK)
		is(t, d.Write([]byte{1}), api.ErrFull)
		is(t, d.Write(), api.OK)
		is(t, d.Write(nil, []byte{}), api.OK)
		if d.Size() != most {
			t.Error("room", room, d.Size())
		}
	}
}

func TestWriteSyncBack(t *testing.T) {
	d := disk.New(10)
	is(t, d.Write([]byte("ab"), nil, []byte("c")), api.OK)
	want(t, d, 3, 0, false, "abc")
	is(t, d.Sync(), api.OK)
	want(t, d, 3, 3, false, "abc")
	is(t, d.Write([]byte("de")), api.OK)
	want(t, d, 5, 3, false, "abcde")
	for _, n := range []int{-1, 6, math.MinInt, math.MaxInt} {
		is(t, d.Back(n), api.ErrForm)
	}
	want(t, d, 5, 3, false, "abcde")
	is(t, d.Back(5), api.OK)
	want(t, d, 5, 3, false, "abcde")
	is(t, d.Back(4), api.OK)
	want(t, d, 4, 3, false, "abcd")
	is(t, d.Back(2), api.OK)
	want(t, d, 2, 2, false, "ab")
	is(t, d.Write([]byte("xyz")), api.OK)
	want(t, d, 5, 2, false, "abxyz")
	is(t, d.Back(0), api.OK)
	want(t, d, 0, 0, false, "")
	is(t, d.Write([]byte("0123456789")), api.OK)
	is(t, d.Write([]byte("x")), api.ErrFull)
	is(t, d.Back(9), api.OK)
	is(t, d.Write([]byte("x")), api.OK)
	want(t, d, 10, 0, false, "012345678x")
}

// For good: what Back let go of is gone behind a crash, too.
func TestBackIsForGood(t *testing.T) {
	d := disk.New(10)
	d.Write([]byte("abcd"))
	d.Sync()
	d.Back(2)
	d.Boot(99)
	want(t, d, 2, 2, false, "ab")
}

func TestFuse(t *testing.T) {
	abc := []byte("abc")
	for _, c := range []struct {
		fuse int
		do   func(d *disk.Disk) api.Errno
		want api.Errno
		then state // the power is looked at by Off; bytes are read behind Boot
	}{
		{3, func(d *disk.Disk) api.Errno { return d.Write(abc) }, api.OK, state{5, 1, false, "xyabc"}},
		{2, func(d *disk.Disk) api.Errno { return d.Write(abc) }, api.ErrDown, state{4, 1, true, "xyab"}},
		{2, func(d *disk.Disk) api.Errno { return d.Write(abc[:1], abc[1:]) }, api.ErrDown, state{4, 1, true, "xyab"}},
		{0, func(d *disk.Disk) api.Errno { return d.Write(abc) }, api.ErrDown, state{2, 1, true, "xy"}},
		{0, func(d *disk.Disk) api.Errno { return d.Write() }, api.OK, state{2, 1, false, "xy"}},
		{0, func(d *disk.Disk) api.Errno { return d.Write(nil, abc[:0]) }, api.OK, state{2, 1, false, "xy"}},
		{-1, func(d *disk.Disk) api.Errno { return d.Write(abc) }, api.OK, state{5, 1, false, "xyabc"}},
		{math.MinInt, func(d *disk.Disk) api.Errno { return d.Write(abc) }, api.OK, state{5, 1, false, "xyabc"}},
		{math.MaxInt, func(d *disk.Disk) api.Errno { return d.Write(abc) }, api.OK, state{5, 1, false, "xyabc"}},
		{1, func(d *disk.Disk) api.Errno { return d.Sync() }, api.OK, state{2, 2, false, "xy"}},
		{0, func(d *disk.Disk) api.Errno { return d.Sync() }, api.ErrDown, state{2, 1, true, "xy"}},
		{1, func(d *disk.Disk) api.Errno { return d.Back(1) }, api.OK, state{1, 1, false, "x"}},
		{0, func(d *disk.Disk) api.Errno { return d.Back(1) }, api.ErrDown, state{2, 1, true, "xy"}},
		{0, func(d *disk.Disk) api.Errno { return d.Back(2) }, api.ErrDown, state{2, 1, true, "xy"}},
		// What is refused burns nothing.
		{0, func(d *disk.Disk) api.Errno { return d.Back(3) }, api.ErrForm, state{2, 1, false, "xy"}},
		{0, func(d *disk.Disk) api.Errno { return d.Write(make([]byte, 9)) }, api.ErrFull, state{2, 1, false, "xy"}},
		{1, func(d *disk.Disk) api.Errno { d.Back(-1); d.Write(make([]byte, 9)); return d.Sync() }, api.OK, state{2, 2, false, "xy"}},
		// Each burns what it burns.
		{5, func(d *disk.Disk) api.Errno { d.Write(abc); d.Sync(); return d.Back(4) }, api.OK, state{4, 4, false, "xyab"}},
		{4, func(d *disk.Disk) api.Errno { d.Write(abc); d.Sync(); return d.Back(4) }, api.ErrDown, state{5, 5, true, "xyabc"}},
		{3, func(d *disk.Disk) api.Errno { d.Write(abc); return d.Sync() }, api.ErrDown, state{5, 1, true, "xyabc"}},
		{3, func(d *disk.Disk) api.Errno { d.Sync(); return d.Write(abc) }, api.ErrDown, state{4, 2, true, "xyab"}},
		{0, func(d *disk.Disk) api.Errno { d.Arm(1); return d.Sync() }, api.OK, state{2, 2, false, "xy"}},
		{0, func(d *disk.Disk) api.Errno { d.Arm(-1); return d.Sync() }, api.OK, state{2, 2, false, "xy"}},
	} {
		d := disk.New(10)
		d.Write([]byte("x"))
		d.Sync()
		d.Write([]byte("y"))
		d.Arm(c.fuse)
		if got := c.do(d); got != c.want || d.Size() != c.then.size || d.Firm() != c.then.firm || d.Off() != c.then.off {
			t.Error("fuse", c.fuse, got, of(d), "want", c.want, c.then)
		}
		if d.Off() {
			if len(d.Read()) != 0 {
				t.Error("Read without power")
			}
			for _, got := range []api.Errno{d.Write(nil), d.Write(abc), d.Write(make([]byte, 99)), d.Sync(), d.Back(0), d.Back(-1)} {
				is(t, got, api.ErrDown)
			}
			if d.Size() != c.then.size || d.Firm() != c.then.firm {
				t.Error("without power nothing is done", of(d))
			}
		}
		d.Boot(99)
		want(t, d, c.then.size, c.then.size, false, c.then.bytes)
	}
}

func TestBoot(t *testing.T) {
	for keep, size := range map[int]int{math.MinInt: 2, -1: 2, 0: 2, 1: 3, 3: 5, 4: 5, math.MaxInt: 5} {
		d := disk.New(10)
		d.Write([]byte("ab"))
		d.Sync()
		d.Write([]byte("cde"))
		d.Arm(0)
		d.Boot(keep)
		want(t, d, size, size, false, "abcde"[:size])
		// No fuse any more.
		is(t, d.Sync(), api.OK)
		is(t, d.Write([]byte("x")), api.OK)
		want(t, d, size+1, size, false, "abcde"[:size]+"x")
	}
}

// spoil writes over all of l, the room behind it, too.
func spoil[T any](l []T, mark T) {
	l = l[:cap(l)]
	for i := range l {
		l[i] = mark
	}
}

func TestMemory(t *testing.T) {
	d := disk.New(10)
	part := []byte("abcd")
	parts := [][]byte{part[:2], part[3:]}
	d.Write(parts...)
	part[0] = 'z'
	if string(d.Read()) != "abd" || string(part) != "zbcd" {
		t.Error("what was handed in is kept, or changed")
	}
	got := d.Read()
	spoil(got, 'z')
	d.Write([]byte("e"))
	if string(d.Read()) != "abde" || string(got) != "zzz" {
		t.Error("Read shares memory", string(d.Read()), string(got))
	}
	before := d.Read()
	d.Back(1)
	d.Write([]byte("qqq"))
	if string(before) != "abde" {
		t.Error("Read shares memory", string(before))
	}
}

// A disk is a row of bytes, the firm ones of it, and a fuse.
func TestAgainstRow(t *testing.T) {
	dice := rand.New(rand.NewSource(22))
	for range 500 {
		room := dice.Intn(30)
		d := disk.New(room)
		var all []byte
		firm, fuse, off := 0, -1, false
		burn := func(n int) bool {
			if fuse >= 0 && n > fuse {
				off = true
				return false
			}
			if fuse >= 0 {
				fuse -= n
			}
			return true
		}
		for range 40 {
			var got, should api.Errno
			switch n := dice.Intn(9); dice.Intn(6) {
			case 0, 1:
				part := bytes.Repeat([]byte{byte(dice.Intn(256))}, n)
				got = d.Write(part[:n/2], part[n/2:])
				left := fuse
				switch {
				case off:
					should = api.ErrDown
				case len(all)+n > room:
					should = api.ErrFull
				case burn(n):
					all = append(all, part...)
				default:
					should = api.ErrDown
					all = append(all, part[:left]...)
				}
			case 2:
				got = d.Sync()
				if off || !burn(1) {
					should = api.ErrDown
				} else {
					firm = len(all)
				}
			case 3:
				to := len(all) + 1 - n
				got = d.Back(to)
				switch {
				case off:
					should = api.ErrDown
				case to < 0 || to > len(all):
					should = api.ErrForm
				case burn(1):
					all, firm = all[:to], min(firm, to)
				default:
					should = api.ErrDown
				}
			case 4:
				if dice.Intn(2) == 0 {
					d.Arm(n - 1)
					fuse = n - 1
				}
			case 5:
				if off {
					d.Boot(n)
					all = slices.Clone(all[:min(len(all), firm+n)])
					firm, fuse, off = len(all), -1, false
				}
			}
			text := string(all)
			if off {
				text = ""
			}
			if got != should || of(d) != (state{len(all), firm, off, text}) {
				t.Fatal(got, should, of(d), string(all), firm, off)
			}
		}
	}
}
