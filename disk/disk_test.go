package disk

import (
	"bytes"
	"math"
	"slices"
	"strings"
	"testing"

	"decorum/api"
)

func want(t *testing.T, d *Disk, seg int, s string) {
	t.Helper()
	if b, e := d.Read(seg); e != api.OK || string(b) != s {
		t.Errorf("segment %d: %q %d, not %q", seg, b, e, s)
	}
}

func is(t *testing.T, what string, got, want api.Errno) {
	t.Helper()
	if got != want {
		t.Errorf("%s: %d, not %d", what, got, want)
	}
}

func write(t *testing.T, d *Disk, seg int, s string) {
	t.Helper()
	is(t, "Append of "+s, d.Append(seg, []byte(s)), api.OK)
}

func TestAppendReadDrop(t *testing.T) {
	d := New(3)
	if len(d.Segs()) != 0 {
		t.Error("a new disk has segments")
	}
	write(t, d, 5, "ab")
	write(t, d, 0, "")
	write(t, d, 5, "c")
	write(t, d, math.MaxInt, "x")
	want(t, d, 5, "abc")
	want(t, d, 0, "")
	want(t, d, math.MaxInt, "x")
	if got := d.Segs(); !slices.Equal(got, []int{0, 5, math.MaxInt}) {
		t.Error("Segs", got)
	}
	is(t, "Drop", d.Drop(5), api.OK)
	is(t, "Drop once more", d.Drop(5), api.ErrNone)
	is(t, "Drop of none", d.Drop(-1), api.ErrNone)
	if b, e := d.Read(5); b != nil || e != api.ErrNone {
		t.Error("Read of none", b, e)
	}
	if got := d.Segs(); !slices.Equal(got, []int{0, math.MaxInt}) {
		t.Error("Segs", got)
	}
	write(t, d, 5, "new")
	want(t, d, 5, "new")
}

func TestLimits(t *testing.T) {
	d := New(2)
	is(t, "a negative segment", d.Append(-1, []byte("a")), api.ErrArg)
	is(t, "the least segment", d.Append(math.MinInt, make([]byte, api.MaxSeg+1)), api.ErrArg)
	is(t, "too many bytes at once", d.Append(0, make([]byte, api.MaxSeg+1)), api.ErrFull)
	if len(d.Segs()) != 0 {
		t.Error("a refused write made a segment")
	}
	is(t, "all bytes", d.Append(0, make([]byte, api.MaxSeg)), api.OK)
	is(t, "no byte more", d.Append(0, nil), api.OK)
	is(t, "a byte more", d.Append(0, []byte("a")), api.ErrFull)
	write(t, d, 1, "b")
	is(t, "a segment too many", d.Append(2, nil), api.ErrFull)
	write(t, d, 1, "c")
	is(t, "Drop", d.Drop(0), api.OK)
	write(t, d, 2, "d")

	for segs, most := range map[int]int{-5: 0, 0: 0, math.MinInt: 0, 1: 1, api.MaxSegs: api.MaxSegs, api.MaxSegs + 1: api.MaxSegs, math.MaxInt: api.MaxSegs} {
		d := New(segs)
		n := 0
		for n <= api.MaxSegs && d.Append(n, nil) == api.OK {
			n++
		}
		if n != most {
			t.Errorf("New(%d) has room for %d segments", segs, n)
		}
	}
}

func TestMemory(t *testing.T) {
	d := New(1)
	b := []byte("abcdef")
	is(t, "Append", d.Append(0, b[:3]), api.OK)
	b[0] = 'X'
	write(t, d, 0, "123")
	if string(b) != "Xbcdef" {
		t.Error("the argument was changed", string(b))
	}
	got, _ := d.Read(0)
	got[1] = 'Y'
	_ = append(got, 'Z')
	want(t, d, 0, "abc123")
	segs := d.Segs()
	segs[0] = 9
	want(t, d, 0, "abc123")
}

func TestFault(t *testing.T) {
	d := New(2)
	write(t, d, 0, "a")
	d.Fault(2, 3)
	write(t, d, 0, "b")
	is(t, "refused calls are no writes", d.Append(-1, nil), api.ErrArg)
	is(t, "refused calls are no writes", d.Append(0, make([]byte, api.MaxSeg)), api.ErrFull)
	is(t, "refused calls are no writes", d.Drop(7), api.ErrNone)
	is(t, "Sync", d.Sync(), api.OK)
	is(t, "a failing Append", d.Append(1, []byte("c")), api.ErrDisk)
	is(t, "refused calls are no writes", d.Append(0, make([]byte, api.MaxSeg)), api.ErrFull)
	is(t, "a failing Drop", d.Drop(0), api.ErrDisk)
	is(t, "a failing Sync", d.Sync(), api.ErrDisk)
	if got := d.Segs(); !slices.Equal(got, []int{0}) {
		t.Error("failing writes have an effect", got)
	}
	want(t, d, 0, "ab")
	write(t, d, 1, "c")

	d.Fault(math.MinInt, 1)
	is(t, "at once", d.Sync(), api.ErrDisk)
	is(t, "no more", d.Sync(), api.OK)
	d.Fault(0, -1)
	is(t, "a negative count", d.Sync(), api.OK)
	d.Fault(0, math.MaxInt)
	is(t, "always", d.Sync(), api.ErrDisk)
	d.Fault(5, 5)
	is(t, "a new Fault replaces the old one", d.Sync(), api.OK)
	d.Fault(0, 0)
	for range 20 {
		is(t, "no Fault", d.Sync(), api.OK)
	}
}

func TestFailingSyncLeavesBytesUnsynced(t *testing.T) {
	d := New(2)
	write(t, d, 0, "abc")
	d.Fault(0, 1)
	is(t, "Sync", d.Sync(), api.ErrDisk)
	d.Crash(1)
	want(t, d, 0, "a")
}

func TestCrash(t *testing.T) {
	build := func() *Disk {
		d := New(4)
		write(t, d, 1, "AB")
		is(t, "Sync", d.Sync(), api.OK)
		write(t, d, 1, "cd")
		write(t, d, 0, "ef")
		write(t, d, 2, "gone")
		write(t, d, 1, "g")
		is(t, "Drop", d.Drop(2), api.OK)
		write(t, d, 2, "h")
		write(t, d, 3, "")
		return d
	}
	order := []int{1, 1, 0, 0, 1, 2}
	for keep := -2; keep <= 8; keep++ {
		d := build()
		d.Fault(0, 5)
		d.Crash(keep)
		texts := [4]string{1: "AB"}
		for i, seg := range order[:max(0, min(keep, len(order)))] {
			texts[seg] += "cdefgh"[i : i+1]
		}
		for seg, s := range texts {
			want(t, d, seg, s)
		}
		is(t, "no Fault after a Crash", d.Sync(), api.OK)
		write(t, d, 1, "!")
		want(t, d, 1, texts[1]+"!")
	}
	d := build()
	d.Crash(math.MinInt)
	want(t, d, 1, "AB")
	d = build()
	d.Crash(math.MaxInt)
	want(t, d, 1, "ABcdg")
	d.Crash(0)
	want(t, d, 1, "ABcdg")
}

func TestCrashAfterSync(t *testing.T) {
	d := New(1)
	write(t, d, 0, strings.Repeat("x", api.MaxSeg))
	is(t, "Sync", d.Sync(), api.OK)
	d.Crash(0)
	if b, _ := d.Read(0); !bytes.Equal(b, bytes.Repeat([]byte("x"), api.MaxSeg)) {
		t.Error("synced bytes are lost")
	}
}

func TestNil(t *testing.T) {
	var d *Disk
	is(t, "Append", d.Append(0, nil), api.ErrArg)
	is(t, "Sync", d.Sync(), api.ErrArg)
	is(t, "Drop", d.Drop(0), api.ErrArg)
	if b, e := d.Read(0); b != nil || e != api.ErrArg {
		t.Error("Read", b, e)
	}
	if d.Segs() != nil {
		t.Error("Segs")
	}
	d.Fault(1, 1)
	d.Crash(1)

	var zero Disk
	is(t, "Append", zero.Append(0, nil), api.ErrFull)
	is(t, "Sync", zero.Sync(), api.OK)
	zero.Crash(3)
}
