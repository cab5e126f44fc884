package spill

import (
	"math"
	"slices"
	"strings"
	"testing"

	"decorum/api"
	"decorum/disk"
	"decorum/frame"
)

func req(id int) api.Req {
	return api.Req{ID: id, Host: "http://a", Path: "/" + strings.Repeat("x", id%50), Prio: id % 8, Until: id * 3}
}

func open(t *testing.T, d *disk.Disk, segs int) *Log {
	t.Helper()
	l, e := Open(d, segs)
	if l == nil || e != api.OK {
		t.Fatal("Open", e)
	}
	return l
}

func is(t *testing.T, what string, got, want api.Errno) {
	t.Helper()
	if got != want {
		t.Errorf("%s: %d, not %d", what, got, want)
	}
}

func holds(t *testing.T, l *Log, ids ...int) {
	t.Helper()
	var got []int
	for _, r := range l.Pending() {
		got = append(got, r.ID)
		if one, ok := l.Load(r.ID); !ok || one != r {
			t.Errorf("Load(%d) = %+v %v", r.ID, one, ok)
		}
	}
	if !slices.Equal(got, ids) {
		t.Errorf("requests %v, not %v", got, ids)
	}
}

func TestPutDoneWait(t *testing.T) {
	d := disk.New(5)
	l := open(t, d, 2)
	holds(t, l)
	if l.Next() != 1 || l.Size() != 0 || l.Until("http://a") != 0 {
		t.Error("a new log", l.Next(), l.Size())
	}
	for _, id := range []int{7, 3, 5} {
		is(t, "Put", l.Put(req(id)), api.OK)
	}
	holds(t, l, 3, 5, 7)
	if got, ok := l.Load(5); !ok || got != req(5) {
		t.Error("Load", got, ok)
	}
	if got, ok := l.Load(4); ok || got != (api.Req{}) {
		t.Error("Load of none", got, ok)
	}
	is(t, "Done", l.Done(3), api.OK)
	is(t, "Done once more", l.Done(3), api.ErrNone)
	is(t, "Done of none", l.Done(100), api.ErrNone)
	is(t, "Done of none", l.Done(math.MinInt), api.ErrNone)
	is(t, "Wait", l.Wait("http://b", 50), api.OK)
	is(t, "an earlier Wait", l.Wait("http://b", 40), api.OK)
	is(t, "a later Wait", l.Wait("", 70), api.OK)
	is(t, "a later Wait", l.Wait("", 80), api.OK)
	is(t, "no Wait", l.Wait("http://c", 0), api.OK)
	for range 2 {
		holds(t, l, 5, 7)
		if l.Next() != 8 || l.Size() != 1 || l.Until("http://b") != 50 || l.Until("") != 80 || l.Until("http://c") != 0 || l.Until("http://a") != 0 {
			t.Error(l.Next(), l.Size(), l.Until("http://b"), l.Until(""))
		}
		d.Crash(0)
		l = open(t, d, 2)
	}
	is(t, "Put in place of another one", l.Put(api.Req{ID: 5, Path: "/new"}), api.OK)
	if got, _ := l.Load(5); got.Path != "/new" {
		t.Error("Load", got)
	}
	holds(t, open(t, d, 2), 5, 7)
}

func TestErrors(t *testing.T) {
	if l, e := Open(nil, 3); l != nil || e != api.ErrArg {
		t.Error("Open of nothing", l, e)
	}
	l := open(t, disk.New(5), 2)
	for _, r := range []api.Req{{ID: -1}, {ID: 9, Prio: 8}, {ID: 9, Prio: -1}, {ID: 9, Until: -1}, {ID: 9, Host: strings.Repeat("h", api.MaxURL+1)}, {ID: 9, Path: strings.Repeat("p", 3*api.MaxURL+1)}} {
		is(t, "Put of what is not sound", l.Put(r), api.ErrForm)
	}
	is(t, "Wait of what is not sound", l.Wait("a", -1), api.ErrForm)
	is(t, "Wait of what is not sound", l.Wait(strings.Repeat("h", api.MaxURL+1), 5), api.ErrForm)
	if l.Next() != 1 || l.Size() != 0 || l.Until("a") != 0 || l.Until(strings.Repeat("h", api.MaxURL+1)) != 0 {
		t.Error("refused calls change something")
	}
}

func TestNil(t *testing.T) {
	var l *Log
	is(t, "Put", l.Put(api.Req{}), api.ErrArg)
	is(t, "Done", l.Done(1), api.ErrArg)
	is(t, "Wait", l.Wait("", 1), api.ErrArg)
	is(t, "Compact", l.Compact(), api.ErrArg)
	if l.Pending() != nil || l.Until("") != 0 || l.Next() != 0 || l.Size() != 0 {
		t.Error("a nil Log")
	}
	if r, ok := l.Load(0); r != (api.Req{}) || ok {
		t.Error("Load", r, ok)
	}
	var zero Log
	if zero.Put(api.Req{}) == api.OK || zero.Wait("a", 1) == api.OK || zero.Compact() == api.OK {
		t.Error("a Log without a disk")
	}
}

func TestNextWithFailedPuts(t *testing.T) {
	d := disk.New(5)
	l := open(t, d, 2)
	d.Fault(0, 1)
	is(t, "Put", l.Put(req(4)), api.ErrDisk)
	holds(t, l)
	if l.Next() != 5 {
		t.Error("Next after a failed Put:", l.Next())
	}
	d.Fault(1, 1)
	is(t, "Put whose Sync fails", l.Put(req(6)), api.ErrDisk)
	holds(t, l)
	if l.Next() != 7 {
		t.Error("Next after a failed Put:", l.Next())
	}
	is(t, "Put", l.Put(req(0)), api.OK)
	holds(t, l, 0)
	is(t, "Compact", l.Compact(), api.OK)
	l = open(t, d, 2)
	holds(t, l, 0)
	if l.Next() != 7 {
		t.Error("Next after Compact and Open:", l.Next())
	}
	is(t, "Put", l.Put(api.Req{ID: math.MaxInt}), api.OK)
	if l.Next() != math.MaxInt {
		t.Error("Next after the last ID:", l.Next())
	}
}

func TestNextLastsWithoutRequests(t *testing.T) {
	d := disk.New(5)
	l := open(t, d, 2)
	is(t, "Put", l.Put(req(41)), api.OK)
	is(t, "Done", l.Done(41), api.OK)
	is(t, "Compact", l.Compact(), api.OK)
	if l.Next() != 42 || open(t, d, 2).Next() != 42 {
		t.Error(l.Next(), open(t, d, 2).Next())
	}
	is(t, "Compact", l.Compact(), api.OK)
	if open(t, d, 2).Next() != 42 || l.Size() != 1 {
		t.Error(open(t, d, 2).Next(), l.Size())
	}
	d = disk.New(5)
	l = open(t, d, 2)
	is(t, "Put", l.Put(req(1)), api.OK)
	is(t, "Done", l.Done(1), api.OK)
	is(t, "Compact", l.Compact(), api.OK)
	if open(t, d, 2).Next() != 2 {
		t.Error(open(t, d, 2).Next())
	}
	empty := open(t, disk.New(1), 1)
	is(t, "Compact of nothing", empty.Compact(), api.OK)
	if empty.Size() != 0 || empty.Next() != 1 {
		t.Error(empty.Size(), empty.Next())
	}
}

func TestFailedDoneAndWait(t *testing.T) {
	for behind := range 2 {
		d := disk.New(5)
		l := open(t, d, 2)
		is(t, "Put", l.Put(req(1)), api.OK)
		d.Fault(behind, 1)
		is(t, "Done", l.Done(1), api.ErrDisk)
		holds(t, l)
		is(t, "Done once more", l.Done(1), api.ErrNone)
		d.Fault(behind, 1)
		is(t, "Wait", l.Wait("a", 9), api.ErrDisk)
		if l.Until("a") != 9 {
			t.Error("a failed Wait has no effect")
		}
		is(t, "Compact", l.Compact(), api.OK)
		d.Crash(0)
		l = open(t, d, 2)
		holds(t, l)
		if l.Until("a") != 9 {
			t.Error("a Wait is lost by Compact")
		}
	}
}

// TestTornEnd checks that nothing is written behind bytes that are no record.
func TestTornEnd(t *testing.T) {
	d := disk.New(5)
	l := open(t, d, 2)
	is(t, "Put", l.Put(req(1)), api.OK)
	d.Fault(1, 1)
	is(t, "Put whose Sync fails", l.Put(req(2)), api.ErrDisk)
	d.Crash(10)
	l = open(t, d, 2)
	holds(t, l, 1)
	is(t, "Put", l.Put(req(3)), api.OK)
	if got := d.Segs(); !slices.Equal(got, []int{0, 1}) {
		t.Error("segments", got)
	}
	d.Crash(0)
	l = open(t, d, 2)
	holds(t, l, 1, 3)
	is(t, "Append", d.Append(1, []byte("no record")), api.OK)
	is(t, "Put, after a Compact", l.Put(req(4)), api.OK)
	if l.Size() != 1 {
		t.Error("segments", d.Segs())
	}
	d.Crash(0)
	holds(t, open(t, d, 2), 1, 3, 4)
}

func TestBytesThatAreNoRecord(t *testing.T) {
	d := disk.New(5)
	good, _ := frame.Encode(frame.Rec{Kind: frame.Put, Req: req(7)})
	other, _ := frame.Encode(frame.Rec{Kind: frame.Put, Req: req(8)})
	done, _ := frame.Encode(frame.Rec{Kind: frame.Done, Req: api.Req{ID: 6}})
	is(t, "Append", d.Append(4, slices.Concat(good, []byte("?"), other)), api.OK)
	is(t, "Append", d.Append(9, other), api.OK)
	is(t, "Append", d.Append(math.MaxInt, done), api.OK)
	l := open(t, d, 5)
	holds(t, l, 7, 8)
	if l.Next() != 9 {
		t.Error("Next", l.Next())
	}
	is(t, "Put", l.Put(req(9)), api.OK)
	holds(t, open(t, d, 5), 7, 8, 9)
	// No segment has a greater number than the last one.
	is(t, "Compact", l.Compact(), api.ErrFull)
	holds(t, open(t, d, 5), 7, 8, 9)
}

func TestSegmentsInOrder(t *testing.T) {
	d := disk.New(5)
	put, _ := frame.Encode(frame.Rec{Kind: frame.Put, Req: req(1)})
	done, _ := frame.Encode(frame.Rec{Kind: frame.Done, Req: api.Req{ID: 1}})
	is(t, "Append", d.Append(10, done), api.OK)
	is(t, "Append", d.Append(2, put), api.OK)
	holds(t, open(t, d, 3))
	is(t, "Drop", d.Drop(10), api.OK)
	is(t, "Append", d.Append(1, done), api.OK)
	holds(t, open(t, d, 3), 1)
}

// fill puts requests until there is no room, and returns how many there are.
func fill(t *testing.T, l *Log, size int) int {
	t.Helper()
	for n := 0; ; n++ {
		e := l.Put(api.Req{ID: l.Next(), Path: strings.Repeat("p", size)})
		if e == api.ErrFull {
			return n
		}
		is(t, "Put", e, api.OK)
	}
}

func TestFull(t *testing.T) {
	for _, c := range []struct{ segs, size, want int }{{1, 0, 78}, {2, 0, 156}, {3, 741, 6}, {7, 768, 14}, {0, 0, 0}, {-1, 0, 0}} {
		d := disk.New(2*c.segs + 1)
		l := open(t, d, c.segs)
		if n := fill(t, l, c.size); n != c.want {
			t.Errorf("%d segments have room for %d requests, not %d", c.segs, n, c.want)
		}
		if l.Size() > max(c.segs, 0) {
			t.Errorf("%d segments, not %d", l.Size(), c.segs)
		}
		before := l.Pending()
		is(t, "Put", l.Put(api.Req{ID: 5, Path: strings.Repeat("p", c.size)}), api.ErrFull)
		if !slices.Equal(before, l.Pending()) || !slices.Equal(before, open(t, d, c.segs).Pending()) {
			t.Error("a refused Put changes something")
		}
		for i, r := range before {
			if i%2 == 0 {
				is(t, "Done", l.Done(r.ID), api.OK)
			}
		}
		if n := fill(t, l, c.size); c.want > 2 && n < c.want/2-2 {
			t.Errorf("room for %d more, after half of %d were done", n, c.want)
		}
		for _, r := range l.Pending() {
			is(t, "Done", l.Done(r.ID), api.OK)
		}
		d.Crash(0)
		holds(t, open(t, d, c.segs))
	}
}

func TestWaitsNeedRoom(t *testing.T) {
	d := disk.New(3)
	l := open(t, d, 1)
	n := fill(t, l, 100)
	is(t, "Wait without room", l.Wait(strings.Repeat("h", 200), 77), api.ErrFull)
	if l.Until(strings.Repeat("h", 200)) != 77 {
		t.Error("it takes effect also with an error")
	}
	for _, r := range l.Pending()[:3] {
		l.Done(r.ID)
	}
	is(t, "Compact", l.Compact(), api.OK)
	l = open(t, d, 1)
	if len(l.Pending()) != n-3 || l.Until(strings.Repeat("h", 200)) != 77 {
		t.Error(len(l.Pending()), n)
	}
}

// TestCompactDropsTheOldestFirst stops Compact by faults after each of its drops.
func TestCompactDropsTheOldestFirst(t *testing.T) {
	build := func() (*disk.Disk, *Log) {
		d := disk.New(9)
		l := open(t, d, 4)
		for id := 1; id <= 3; id++ {
			is(t, "Put", l.Put(api.Req{ID: id, Path: strings.Repeat("p", 768), Host: strings.Repeat("h", 256)}), api.OK)
		}
		is(t, "Done", l.Done(1), api.OK)
		return d, l
	}
	d, l := build()
	if got := d.Segs(); !slices.Equal(got, []int{0, 1, 2}) {
		t.Fatal("segments", got)
	}
	is(t, "Compact", l.Compact(), api.OK)
	if got := d.Segs(); !slices.Equal(got, []int{3, 4}) {
		t.Fatal("segments", got)
	}
	for i, want := range [][]int{{0, 1, 2, 3, 4}, {1, 2, 3, 4}, {2, 3, 4}} {
		d, l := build()
		d.Fault(3+i, 1)
		is(t, "Compact", l.Compact(), api.ErrDisk)
		if got := d.Segs(); !slices.Equal(got, want) {
			t.Errorf("after %d drops: segments %v", i, got)
		}
		holds(t, l, 2, 3)
		holds(t, open(t, d, 4), 2, 3)
		is(t, "Put", l.Put(req(4)), api.OK)
		is(t, "Done", l.Done(2), api.OK)
		if l.Size() > 4 {
			t.Error("too many segments", d.Segs())
		}
		d.Crash(0)
		holds(t, open(t, d, 4), 3, 4)
	}
}

// TestCompactAtEveryFault lets each write of Compact fail, with a crash behind it or not.
func TestCompactAtEveryFault(t *testing.T) {
	for behind := range 12 {
		for _, count := range []int{1, 2, 100} {
			for _, keep := range []int{-1, 0, 1, 30, 700, 3000, 1 << 30} {
				d := disk.New(7)
				l := open(t, d, 3)
				for id := 1; id <= 60; id++ {
					is(t, "Put", l.Put(req(id)), api.OK)
				}
				for id := 1; id <= 60; id += 3 {
					is(t, "Done", l.Done(id), api.OK)
				}
				is(t, "Done", l.Done(60), api.OK)
				is(t, "Wait", l.Wait("http://w", 99), api.OK)
				want := l.Pending()
				d.Fault(behind, count)
				e := l.Compact()
				if !slices.Equal(l.Pending(), want) || l.Next() != 61 || l.Until("http://w") != 99 {
					t.Fatalf("fault %d: the state changes", behind)
				}
				if keep >= 0 {
					d.Crash(keep)
				}
				d.Fault(0, 0)
				l = open(t, d, 3)
				if !slices.Equal(l.Pending(), want) || l.Next() != 61 || l.Until("http://w") != 99 {
					t.Fatalf("fault %d, error %d: the state changes by Open", behind, e)
				}
				is(t, "Put", l.Put(req(61)), api.OK)
				is(t, "Compact", l.Compact(), api.OK)
				if !slices.Equal(open(t, d, 3).Pending(), append(want, req(61))) || l.Size() > 3 {
					t.Fatalf("fault %d: %d segments later on", behind, l.Size())
				}
			}
		}
	}
}

// sized is a request whose record has so many bytes.
func sized(id, size int) api.Req {
	const empty = 26
	host := min(size-empty, api.MaxURL)
	return api.Req{ID: id, Host: strings.Repeat("h", host), Path: strings.Repeat("p", size-empty-host)}
}

// TestCompactOfAFullLog checks that a state that fills all segments fits into as many again.
func TestCompactOfAFullLog(t *testing.T) {
	d := disk.New(5)
	l := open(t, d, 2)
	is(t, "Wait", l.Wait(strings.Repeat("w", 74), 9), api.OK)
	for id, size := range []int{974, 974, 1024, 974, 50} {
		is(t, "Put", l.Put(sized(id, size)), api.OK)
	}
	for _, seg := range d.Segs() {
		if b, _ := d.Read(seg); len(b) != api.MaxSeg {
			t.Fatalf("segment %d has %d bytes", seg, len(b))
		}
	}
	for range 3 {
		is(t, "Compact", l.Compact(), api.OK)
		if l.Size() != 2 {
			t.Error("segments", d.Segs())
		}
		holds(t, l, 0, 1, 2, 3, 4)
	}
	is(t, "Put without room", l.Put(sized(5, 26)), api.ErrFull)
	is(t, "Done", l.Done(4), api.OK)
	holds(t, open(t, d, 2), 0, 1, 2, 3)
}

// TestRoomAfterHalfACompact stops the Compact of a full log by faults and a crash. What is left of it
// must not take away the room for the next one.
func TestRoomAfterHalfACompact(t *testing.T) {
	for behind := range 9 {
		for _, count := range []int{1, 2, 3, 100} {
			for _, keep := range []int{-1, 0, 100, 1100, 2000, 1 << 30} {
				d := disk.New(7)
				l := open(t, d, 3)
				for id := 1; id <= 3; id++ {
					is(t, "Put", l.Put(sized(id, 1050)), api.OK)
				}
				is(t, "Wait", l.Wait("w", 9), api.OK)
				d.Fault(behind, count)
				l.Compact()
				if keep >= 0 {
					d.Crash(keep)
					l = open(t, d, 3)
				}
				d.Fault(0, 0)
				holds(t, l, 1, 2, 3)
				is(t, "Compact", l.Compact(), api.OK)
				is(t, "Put", l.Put(req(4)), api.OK)
				is(t, "Done", l.Done(2), api.OK)
				if l.Size() > 3 || l.Until("w") != 9 {
					t.Errorf("fault %d, %d: segments %v", behind, count, d.Segs())
				}
				d.Crash(0)
				holds(t, open(t, d, 3), 1, 3, 4)
			}
		}
	}
}

func TestFailedCompactLeavesNothing(t *testing.T) {
	for behind := range 4 {
		d := disk.New(7)
		l := open(t, d, 3)
		for id := 1; id <= 3; id++ {
			is(t, "Put", l.Put(sized(id, 1050)), api.OK)
		}
		d.Fault(behind, 1)
		is(t, "Compact", l.Compact(), api.ErrDisk)
		if got := d.Segs(); !slices.Equal(got, []int{0, 1, 2}) {
			t.Errorf("fault %d: segments %v", behind, got)
		}
	}
}

// TestTooManySegments checks which ones are dropped where Compact finds more segments than the log
// may have, and that it changes nothing wherever it fails.
func TestTooManySegments(t *testing.T) {
	put := func(id int) frame.Rec { return frame.Rec{Kind: frame.Put, Req: req(id)} }
	done := func(id int) frame.Rec { return frame.Rec{Kind: frame.Done, Req: api.Req{ID: id}} }
	wait := func(until int) frame.Rec {
		return frame.Rec{Kind: frame.Wait, Req: api.Req{Host: "w", Until: until}}
	}
	other := put(5)
	other.Req.Path = "/other"
	for i, c := range []struct {
		segs  [][]frame.Rec
		ids   []int
		until int
		next  int
		spare int // segments that the disk has room for
	}{
		{[][]frame.Rec{{put(1), put(5)}, {done(1)}, {wait(7), wait(8)}, {put(3)}, {put(3)}}, []int{3, 5}, 8, 6, 0},
		{[][]frame.Rec{{put(1)}, {done(1)}, {wait(9)}, {wait(8)}, {put(9)}, {done(9)}}, nil, 9, 10, 0},
		{[][]frame.Rec{{put(5), put(9)}, {put(5)}}, []int{5, 9}, 0, 10, 0},
		{[][]frame.Rec{{put(5), put(6)}, {other}, {put(6)}}, []int{5, 6}, 0, 7, 0},
		{[][]frame.Rec{{put(1), put(5)}, {other}, {put(6)}}, []int{1, 5, 6}, 0, 7, 1},
		{[][]frame.Rec{{other}, {put(5)}, {}, {wait(3)}}, []int{5}, 3, 6, 0},
	} {
		for behind := range 15 {
			d := disk.New(len(c.segs) + c.spare)
			for seg, list := range c.segs {
				is(t, "Append", d.Append(seg, nil), api.OK)
				for _, rec := range list {
					b, _ := frame.Encode(rec)
					is(t, "Append", d.Append(seg, b), api.OK)
				}
			}
			is(t, "Sync", d.Sync(), api.OK)
			l := open(t, d, 1)
			before := l.Pending()
			d.Fault(behind, 100)
			e := l.Compact()
			if e != api.OK && e != api.ErrDisk {
				t.Errorf("%d, fault %d: Compact: %d", i, behind, e)
			}
			d.Crash(0)
			for _, l := range []*Log{l, open(t, d, 1)} {
				holds(t, l, c.ids...)
				if !slices.Equal(l.Pending(), before) || l.Until("w") != c.until || l.Next() != c.next {
					t.Errorf("%d, fault %d: %v, until %d, next %d", i, behind, l.Pending(), l.Until("w"), l.Next())
				}
			}
			if behind == 14 && (e != api.OK || l.Size() != 1) {
				t.Errorf("%d: Compact: %d, segments %v", i, e, d.Segs())
			}
		}
	}
}

// TestLoadOfWhatIsGone has somebody else change the disk.
func TestLoadOfWhatIsGone(t *testing.T) {
	d := disk.New(3)
	l := open(t, d, 1)
	is(t, "Put", l.Put(req(1)), api.OK)
	is(t, "Put", l.Put(req(2)), api.OK)
	is(t, "Drop", d.Drop(0), api.OK)
	is(t, "Append", d.Append(0, make([]byte, 20)), api.OK)
	for id := 1; id <= 2; id++ {
		if r, ok := l.Load(id); ok || r != (api.Req{}) {
			t.Errorf("Load(%d) = %+v", id, r)
		}
	}
	if list := l.Pending(); len(list) != 0 {
		t.Error("Pending", list)
	}
}

func TestMemory(t *testing.T) {
	d := disk.New(3)
	l := open(t, d, 1)
	is(t, "Put", l.Put(req(1)), api.OK)
	is(t, "Put", l.Put(req(2)), api.OK)
	list := l.Pending()
	list[0] = api.Req{}
	_ = append(list[:1], api.Req{})
	holds(t, l, 1, 2)
}
