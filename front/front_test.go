package front

import (
	"math"
	"math/rand"
	"strconv"
	"testing"

	"decorum/api"
	"decorum/disk"
	"decorum/spill"
)

func is(t *testing.T, what string, got, want api.Errno) {
	t.Helper()
	if got != want {
		t.Errorf("%s: %d, not %d", what, got, want)
	}
}

func req(id, prio int) api.Req {
	return api.Req{ID: id, Host: "http://h", Path: "/" + strconv.Itoa(id), Prio: prio, Until: 2 * max(id, 0)}
}

// logOf returns a log that holds requests.
func logOf(t *testing.T, list ...api.Req) *spill.Log {
	t.Helper()
	l, _ := spill.Open(disk.New(15), 7)
	for _, r := range list {
		is(t, "Put", l.Put(r), api.OK)
	}
	return l
}

func first(t *testing.T, f *Front, host int, want api.Req) {
	t.Helper()
	if got, ok := f.First(host); !ok || got != want {
		t.Errorf("First(%d) = %+v %v, not %+v", host, got, ok, want)
	}
}

func TestAddAndDrop(t *testing.T) {
	f := New(2, 9, nil)
	is(t, "Add", f.Add(0, req(1, 5)), api.OK)
	is(t, "Add again", f.Add(0, req(1, 5)), api.ErrDup)
	is(t, "Add to another host", f.Add(1, req(1, 5)), api.ErrDup)
	is(t, "Add", f.Add(0, req(2, 3)), api.OK)
	is(t, "Add without room", f.Add(0, req(3, 0)), api.ErrFull)
	is(t, "Add again, without room", f.Add(0, req(2, 0)), api.ErrDup)
	is(t, "Add", f.Add(-7, req(3, 0)), api.OK)
	is(t, "Add", f.Add(math.MaxInt, req(-4, 0)), api.OK)
	first(t, f, 0, req(2, 3))
	first(t, f, -7, req(3, 0))
	first(t, f, math.MaxInt, req(-4, 0))
	if r, ok := f.First(5); ok || r != (api.Req{}) {
		t.Error("First of a host without requests", r)
	}
	if f.Len(0) != 2 || f.Len(-7) != 1 || f.Len(5) != 0 || f.Count() != 4 || f.Memory() != 4 {
		t.Error(f.Len(0), f.Len(-7), f.Len(5), f.Count(), f.Memory())
	}
	for id, host := range map[int]int{1: 0, 2: 0, 3: -7, -4: math.MaxInt} {
		if got, ok := f.Host(id); !ok || got != host {
			t.Errorf("Host(%d) = %d %v", id, got, ok)
		}
	}
	if !f.Drop(2) || f.Drop(2) || f.Drop(99) {
		t.Error("Drop")
	}
	if got, ok := f.Host(2); ok || got != 0 {
		t.Error("Host of a request that is gone", got)
	}
	first(t, f, 0, req(1, 5))
	if f.Len(0) != 1 || f.Count() != 3 || f.Memory() != 3 {
		t.Error(f.Len(0), f.Count(), f.Memory())
	}
	is(t, "Add", f.Add(0, req(2, 6)), api.OK)
	first(t, f, 0, req(1, 5))
}

func TestBack(t *testing.T) {
	f := New(1, 9, nil)
	is(t, "Add", f.Add(0, req(1, 5)), api.OK)
	f.Back(0, req(2, 4))
	f.Back(0, req(3, 6))
	f.Back(4, req(2, 0))
	if f.Len(0) != 3 || f.Len(4) != 0 || f.Count() != 3 {
		t.Error(f.Len(0), f.Len(4), f.Count())
	}
	first(t, f, 0, req(2, 4))
	is(t, "Add without room", f.Add(0, req(4, 0)), api.ErrFull)
	none := New(-5, 9, nil)
	is(t, "Add", none.Add(0, req(1, 0)), api.ErrFull)
	if none.Count() != 0 || none.Memory() != 0 {
		t.Error("a refused request is there")
	}
	none.Back(0, req(1, 0))
	first(t, none, 0, req(1, 0))
}

func TestHas(t *testing.T) {
	l := logOf(t, req(1, 0), req(2, 0), req(3, 0))
	f := New(9, 1, l)
	for id := 1; id <= 3; id++ {
		is(t, "Add", f.Add(id/3, req(id, 0)), api.OK)
	}
	for _, c := range []struct {
		host int
		path string
		want bool
	}{{0, "/1", true}, {0, "/2", true}, {0, "/3", false}, {1, "/3", true}, {1, "/1", false}, {2, "/1", false}, {0, "", false}, {0, "/", false}} {
		if got := f.Has(c.host, c.path); got != c.want {
			t.Errorf("Has(%d, %q) = %v", c.host, c.path, got)
		}
		if f.Memory() != 1 {
			t.Error("Has fills the memory")
		}
	}
	f.Drop(2)
	if f.Has(0, "/2") {
		t.Error("Has a request that is gone")
	}
}

func TestPathsInMemory(t *testing.T) {
	var list []api.Req
	for id := range 6 {
		list = append(list, req(id, 0))
	}
	l := logOf(t, list...)
	f := New(9, 2, l)
	for host, r := range list {
		is(t, "Add", f.Add(host, r), api.OK)
		if f.Memory() != min(host+1, 2) {
			t.Errorf("%d Paths in memory", f.Memory())
		}
	}
	// Those that are kept are told apart by being away from the log.
	for _, id := range []int{0, 1, 4} {
		is(t, "Done", l.Done(id), api.OK)
	}
	first(t, f, 0, list[0])
	first(t, f, 1, list[1])
	lost := list[4]
	lost.Path = ""
	first(t, f, 5, list[5])
	is(t, "Done", l.Done(5), api.OK)
	first(t, f, 5, list[5])
	first(t, f, 3, list[3])
	is(t, "Done", l.Done(3), api.OK)
	first(t, f, 3, list[3])
	first(t, f, 4, lost)
	if f.Memory() != 2 {
		t.Errorf("%d Paths in memory", f.Memory())
	}
	f.Drop(4)
	f.Drop(3)
	f.Drop(0)
	f.Drop(1)
	f.Drop(5)
	if f.Count() != 1 || f.Memory() != 0 {
		t.Error(f.Count(), f.Memory())
	}
	f.Back(1, list[0])
	if f.Memory() != 1 {
		t.Error("there is room again")
	}
	first(t, f, 1, list[0])
	first(t, f, 2, list[2])
	if f.Memory() != 2 {
		t.Error("First fills the room")
	}
}

func TestLeastMemory(t *testing.T) {
	for _, memory := range []int{1, 0, -1, math.MinInt} {
		f := New(9, memory, logOf(t, req(1, 0), req(2, 0)))
		f.Back(0, req(1, 0))
		f.Back(1, req(2, 0))
		for range 3 {
			first(t, f, 0, req(1, 0))
			first(t, f, 1, req(2, 0))
			if f.Memory() != 1 {
				t.Errorf("%d Paths in memory", f.Memory())
			}
		}
	}
	big := New(math.MaxInt, math.MaxInt, nil)
	is(t, "Add", big.Add(0, req(1, 0)), api.OK)
	first(t, big, 0, req(1, 0))
}

func TestWithoutLog(t *testing.T) {
	f := New(9, 1, nil)
	is(t, "Add", f.Add(0, req(1, 1)), api.OK)
	is(t, "Add", f.Add(0, req(2, 0)), api.OK)
	want := req(2, 0)
	want.Path = ""
	first(t, f, 0, want)
	if f.Memory() != 1 {
		t.Errorf("%d Paths in memory", f.Memory())
	}
}

func TestNil(t *testing.T) {
	var f *Front
	is(t, "Add", f.Add(0, req(1, 0)), api.ErrArg)
	f.Back(0, req(1, 0))
	if f.Drop(1) || f.Has(0, "") || f.Len(0) != 0 || f.Count() != 0 || f.Memory() != 0 {
		t.Error("a nil Front")
	}
	if r, ok := f.First(0); ok || r != (api.Req{}) {
		t.Error("First", r)
	}
	if host, ok := f.Host(1); ok || host != 0 {
		t.Error("Host", host)
	}
	var zero Front
	is(t, "Add", zero.Add(0, req(1, 0)), api.ErrFull)
	zero.Back(0, req(1, 0))
	first(t, &zero, 0, req(1, 0))
}

func TestAgainstAModel(t *testing.T) {
	r := rand.New(rand.NewSource(1))
	l := logOf(t)
	f := New(8, 5, l)
	model := map[int]api.Req{}
	hosts := map[int]int{}
	for range 4000 {
		host := r.Intn(4)
		id := r.Intn(40)
		one := req(id, r.Intn(8))
		_, present := model[id]
		switch r.Intn(4) {
		case 0:
			size := 0
			for _, h := range hosts {
				if h == host {
					size++
				}
			}
			want := api.OK
			if present {
				want = api.ErrDup
			} else if size >= 8 {
				want = api.ErrFull
			}
			if want == api.OK {
				is(t, "Put", l.Put(one), api.OK)
				model[id], hosts[id] = one, host
			}
			is(t, "Add", f.Add(host, one), want)
		case 1:
			if !present {
				is(t, "Put", l.Put(one), api.OK)
				model[id], hosts[id] = one, host
			}
			f.Back(host, one)
		case 2:
			if f.Drop(id) != present {
				t.Fatal("Drop")
			}
			if present {
				is(t, "Done", l.Done(id), api.OK)
			}
			delete(model, id)
			delete(hosts, id)
		case 3:
			best, found := api.Req{}, false
			for id, one := range model {
				if hosts[id] == host && (!found || one.Prio < best.Prio || one.Prio == best.Prio && id < best.ID) {
					best, found = one, true
				}
			}
			got, ok := f.First(host)
			if ok != found || got != best {
				t.Fatalf("First(%d) = %+v %v, not %+v", host, got, ok, best)
			}
			if found && !f.Has(host, best.Path) {
				t.Fatal("Has")
			}
		}
		if f.Count() != len(model) || f.Memory() > min(5, len(model)) {
			t.Fatal("Count or Memory", f.Count(), f.Memory())
		}
	}
}
