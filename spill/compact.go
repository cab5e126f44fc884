package spill

import (
	"cmp"
	"slices"

	"decorum/api"
	"decorum/disk"
	"decorum/frame"
)

// Compact writes the whole state to new segments, and drops the others.
func (l *Log) Compact() api.Errno {
	if l == nil {
		return api.ErrArg
	}
	if l.Size() > l.segs {
		if e := l.prune(); e != api.OK {
			return e
		}
	}
	old := l.disk.Segs()
	fresh, e := l.rewrite(old)
	if e != api.OK {
		// The old segments still hold all. Should this fail too, the next prune makes up for it.
		drop(l.disk, fresh...)
		return e
	}
	l.index = replay(l.disk, fresh...)
	return drop(l.disk, old...)
}

// drop removes segments, up to the first one that can't be removed. An older one must not outlast
// a newer one that says that its requests are done.
func drop(d *disk.Disk, segs ...int) api.Errno {
	for _, seg := range segs {
		if e := d.Drop(seg); e != api.OK {
			return e
		}
	}
	return api.OK
}

// rewrite writes the state behind the old segments, and returns the new ones, also with an error.
func (l *Log) rewrite(old []int) ([]int, api.Errno) {
	chunks := l.pack()
	if len(chunks) > l.segs {
		return nil, api.ErrFull
	}
	all := slices.Clone(old)
	for _, chunk := range chunks {
		seg, ok := following(all)
		if !ok {
			return all[len(old):], api.ErrFull
		}
		if e := l.disk.Append(seg, chunk); e != api.OK {
			return all[len(old):], e
		}
		all = append(all, seg)
	}
	return all[len(old):], l.disk.Sync()
}

// pack returns the contents of segments with all records of the state. In the order of the log, and
// each in the first segment with room for it, they never take more segments than before.
func (l *Log) pack() [][]byte {
	var chunks [][]byte
	for _, r := range l.records() {
		i := slices.IndexFunc(chunks, func(chunk []byte) bool { return len(chunk)+len(r.bytes) <= api.MaxSeg })
		if i < 0 {
			chunks = append(chunks, r.bytes)
			continue
		}
		chunks[i] = append(chunks[i], r.bytes...)
	}
	return chunks
}

// record is one that tells a part of the state, and its place so far.
type record struct {
	at    place
	bytes []byte
}

// records returns all that tells the state, in the order of the log.
func (l *Log) records() []record {
	var list []record
	keep := func(at place, kind int, r api.Req) {
		b, _ := frame.Encode(frame.Rec{Kind: kind, Req: r})
		list = append(list, record{at, b})
	}
	for _, id := range keys(l.puts) {
		if r, ok := l.Load(id); ok {
			keep(l.puts[id], frame.Put, r)
		}
	}
	for _, host := range keys(l.waits) {
		w := l.waits[host]
		keep(w.at, frame.Wait, api.Req{Host: host, Until: w.until})
	}
	if _, ok := l.puts[l.top]; !ok && l.top > 0 {
		// Next has to be the same after Open.
		keep(nowhere, frame.Done, api.Req{ID: l.top})
	}
	slices.SortStableFunc(list, func(a, b record) int {
		return cmp.Or(cmp.Compare(a.at.seg, b.at.seg), cmp.Compare(a.at.off, b.at.off))
	})
	return list
}

// prune drops segments without which the state is the same. There are too many of them only where
// a Compact ended halfway, so that the old ones or the new ones are of no use.
func (l *Log) prune() api.Errno {
	// What makes another segment useless has to last.
	if e := l.disk.Sync(); e != api.OK {
		return e
	}
	all := replay(l.disk, l.disk.Segs()...)
	for _, seg := range l.disk.Segs() {
		others := slices.DeleteFunc(l.disk.Segs(), func(s int) bool { return s == seg })
		rest := replay(l.disk, others...)
		if !l.holds(rest, all) {
			continue
		}
		if e := drop(l.disk, seg); e != api.OK {
			return e
		}
		l.follow(rest)
		all = rest
	}
	return api.OK
}

// holds reports whether nothing of the state is lost and nothing comes back, if the rest takes the place of all.
func (l *Log) holds(rest, all index) bool {
	for _, id := range keys(l.puts) {
		at, ok := rest.puts[id]
		if !ok {
			return false
		}
		was, _ := l.Load(id)
		is, _ := read(l.disk, at)
		if is != was {
			return false
		}
	}
	for _, id := range keys(rest.puts) {
		if _, ok := all.puts[id]; !ok {
			return false
		}
	}
	for _, host := range keys(all.waits) {
		if rest.waits[host].until != all.waits[host].until {
			return false
		}
	}
	return rest.top == all.top
}

// follow notes where the records of the state lie in the rest.
func (l *Log) follow(rest index) {
	for _, id := range keys(l.puts) {
		l.puts[id] = rest.puts[id]
	}
	for _, host := range keys(l.waits) {
		if w := rest.waits[host]; w.until == l.waits[host].until {
			l.waits[host] = w
		}
	}
}
