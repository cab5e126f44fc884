package spill

import (
	"math/rand"
	"slices"
	"strings"
	"testing"

	"decorum/api"
	"decorum/disk"
)

// model is what a log has to hold, and what it may hold after it is opened again.
type model struct {
	sure  map[int]api.Req
	maybe map[int][]api.Req
	waits map[string]int // what holds now
	kept  map[string]int // what holds also after Open
	top   int            // the greatest ID
	saved int            // the greatest ID that is known also after Open
}

func newModel() *model {
	return &model{sure: map[int]api.Req{}, maybe: map[int][]api.Req{}, waits: map[string]int{}, kept: map[string]int{}}
}

// all: after Open the log may be anything between what is sure and what was tried.
func (m *model) checkOpened(t *testing.T, l *Log) {
	t.Helper()
	found := map[int]api.Req{}
	for _, r := range l.Pending() {
		found[r.ID] = r
		if want, ok := m.sure[r.ID]; ok && r == want {
			continue
		}
		if !slices.Contains(m.maybe[r.ID], r) {
			t.Fatalf("opened: request %d was not put", r.ID)
		}
	}
	for id := range m.sure {
		if _, ok := found[id]; !ok {
			t.Fatalf("opened: request %d is lost", id)
		}
	}
	for host, until := range m.kept {
		if l.Until(host) < until {
			t.Fatalf("opened: %s is not left alone until %d", host, until)
		}
	}
	for _, host := range hosts {
		if l.Until(host) > m.waits[host] {
			t.Fatalf("opened: %s is left alone until %d", host, l.Until(host))
		}
	}
	if next := l.Next(); next < m.saved+1 || next > m.top+1 {
		t.Fatalf("opened: next is %d, not from %d to %d", next, m.saved+1, m.top+1)
	}
}

func (m *model) check(t *testing.T, l *Log) {
	t.Helper()
	list := l.Pending()
	if len(list) != len(m.sure) || !slices.IsSortedFunc(list, func(a, b api.Req) int { return a.ID - b.ID }) {
		t.Fatalf("%d requests, not %d", len(list), len(m.sure))
	}
	for _, r := range list {
		if m.sure[r.ID] != r {
			t.Fatalf("request %d is %+v", r.ID, r)
		}
		if one, ok := l.Load(r.ID); !ok || one != r {
			t.Fatalf("Load(%d) = %+v %v", r.ID, one, ok)
		}
	}
	for _, host := range hosts {
		if l.Until(host) != m.waits[host] {
			t.Fatalf("%s is left alone until %d, not %d", host, l.Until(host), m.waits[host])
		}
	}
	if l.Next() != m.top+1 {
		t.Fatalf("next is %d, not %d", l.Next(), m.top+1)
	}
}

// settle: all that the log holds now is certain.
func (m *model) settle(l *Log) {
	m.sure, m.maybe = map[int]api.Req{}, map[int][]api.Req{}
	for _, r := range l.Pending() {
		m.sure[r.ID] = r
	}
	for _, host := range hosts {
		m.waits[host] = l.Until(host)
		m.kept[host] = l.Until(host)
	}
	m.top = l.Next() - 1
	m.saved = m.top
}

var hosts = []string{"", "http://a", "http://b", "https://" + strings.Repeat("c", 200)}

func step(t *testing.T, r *rand.Rand, d *disk.Disk, l *Log, m *model, segs, size int) *Log {
	t.Helper()
	e := api.OK
	kind := r.Intn(20)
	switch {
	case kind < 9:
		req := api.Req{ID: l.Next(), Host: hosts[r.Intn(len(hosts))], Path: "/" + strings.Repeat("p", r.Intn(size)), Prio: r.Intn(8), Until: r.Intn(1000)}
		e = l.Put(req)
		m.top = max(m.top, req.ID)
		if e == api.OK {
			m.sure[req.ID] = req
			m.saved = max(m.saved, req.ID)
		} else {
			m.maybe[req.ID] = append(m.maybe[req.ID], req)
		}
	case kind < 15:
		if len(m.sure) == 0 {
			return l
		}
		list := keys(m.sure)
		id := list[r.Intn(len(list))]
		was := m.sure[id]
		delete(m.sure, id)
		if e = l.Done(id); e != api.OK {
			m.maybe[id] = append(m.maybe[id], was)
		} else {
			delete(m.maybe, id)
		}
	case kind < 17:
		host, until := hosts[r.Intn(len(hosts))], r.Intn(1<<20)
		e = l.Wait(host, until)
		m.waits[host] = max(m.waits[host], until)
		if e == api.OK {
			m.kept[host] = max(m.kept[host], until)
		}
	case kind < 18:
		if e = l.Compact(); e == api.OK {
			m.settle(l)
		}
	case kind < 19:
		d.Fault(r.Intn(8), r.Intn(4))
		return l
	default:
		d.Crash(r.Intn(300))
		opened, e := Open(d, segs)
		if e != api.OK {
			t.Fatal("Open", e)
		}
		m.checkOpened(t, opened)
		m.settle(opened)
		return opened
	}
	if e == api.OK && l.Size() > segs {
		t.Fatalf("kind %d: %d segments, not %d", kind, l.Size(), segs)
	}
	if e != api.OK && e != api.ErrDisk && e != api.ErrFull {
		t.Fatalf("kind %d: error %d", kind, e)
	}
	m.check(t, l)
	opened, _ := Open(d, segs)
	m.checkOpened(t, opened)
	return l
}

func TestAgainstAModel(t *testing.T) {
	for seed := range int64(80) {
		r := rand.New(rand.NewSource(seed))
		segs := 1 + r.Intn(7)
		size := []int{20, 200, 760}[r.Intn(3)]
		d := disk.New(2*segs + 1)
		l, _ := Open(d, segs)
		m := newModel()
		for range 150 {
			l = step(t, r, d, l, m, segs, size)
		}
		d.Fault(0, 0)
		for i, id := range keys(m.sure) {
			if e := l.Done(id); e != api.OK {
				t.Errorf("seed %d, segs %d, size %d: Done %d of %d without faults: %d (%d segments)", seed, segs, size, i, len(m.sure), e, l.Size())
			}
		}
		if e := l.Put(api.Req{ID: l.Next()}); e != api.OK {
			t.Errorf("seed %d: Put without faults: %d", seed, e)
		}
	}
}
