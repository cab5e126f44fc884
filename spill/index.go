package spill

import (
	"cmp"
	"math"
	"slices"

	"decorum/api"
	"decorum/disk"
	"decorum/frame"
)

// place is where a record lies.
type place struct {
	seg, off, size int
}

// nowhere is the place of what is not on the disk. It comes after all others.
var nowhere = place{seg: math.MaxInt, off: math.MaxInt}

// wait is until when a host is to be left alone, and the record that says so.
type wait struct {
	until int
	at    place
}

// index is the state that results from records.
type index struct {
	puts  map[int]place // the requests that are present, by their IDs
	waits map[string]wait
	top   int // the greatest ID so far
}

// replay applies the records of segments.
func replay(d *disk.Disk, segs ...int) index {
	x := index{puts: map[int]place{}}
	for _, seg := range segs {
		b, _ := d.Read(seg)
		list, _ := frame.Scan(b)
		at := place{seg: seg}
		for _, rec := range list {
			b, _ := frame.Encode(rec)
			at.size = len(b)
			x.apply(rec, at)
			at.off += at.size
		}
	}
	return x
}

func (x *index) apply(rec frame.Rec, at place) {
	switch rec.Kind {
	case frame.Put:
		x.puts[rec.Req.ID] = at
		x.top = max(x.top, rec.Req.ID)
	case frame.Done:
		delete(x.puts, rec.Req.ID)
		x.top = max(x.top, rec.Req.ID)
	case frame.Wait:
		x.pause(rec.Req.Host, rec.Req.Until, at)
	}
}

// pause notes a time until which a host is to be left alone, if it is news.
func (x *index) pause(host string, until int, at place) bool {
	if until <= x.waits[host].until {
		return false
	}
	if x.waits == nil {
		x.waits = map[string]wait{}
	}
	x.waits[host] = wait{until, at}
	return true
}

// read returns the request of the record in a place.
func read(d *disk.Disk, at place) (api.Req, bool) {
	b, _ := d.Read(at.seg)
	if at.off > len(b) {
		return api.Req{}, false
	}
	list, _ := frame.Scan(b[at.off:min(at.off+at.size, len(b))])
	if len(list) != 1 {
		return api.Req{}, false
	}
	return list[0].Req, true
}

// keys returns the keys of a map in increasing order.
func keys[K cmp.Ordered, V any](m map[K]V) []K {
	var list []K
	for k := range m {
		list = append(list, k)
	}
	slices.Sort(list)
	return list
}
