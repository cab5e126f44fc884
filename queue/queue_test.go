package queue

import (
	"cmp"
	"math"
	"math/rand"
	"slices"
	"testing"

	"decorum/api"
)

func is(t *testing.T, what string, got, want api.Errno) {
	t.Helper()
	if got != want {
		t.Errorf("%s: %d, not %d", what, got, want)
	}
}

func ids(list []api.Req) []int {
	var n []int
	for _, r := range list {
		n = append(n, r.ID)
	}
	return n
}

func holds(t *testing.T, q *Queue, want ...int) {
	t.Helper()
	if got := ids(q.All()); !slices.Equal(got, want) || q.Len() != len(want) {
		t.Errorf("requests %v, not %v", got, want)
	}
	first, ok := q.First()
	if ok != (len(want) > 0) || ok && first.ID != want[0] || !ok && first != (api.Req{}) {
		t.Errorf("the first one is %+v %v", first, ok)
	}
}

func TestOrder(t *testing.T) {
	q := New(9)
	holds(t, q)
	for _, r := range []api.Req{{ID: 5, Prio: 3}, {ID: 9, Prio: 0}, {ID: 2, Prio: 3}, {ID: 1, Prio: 7}, {ID: 10, Prio: 0}, {ID: -4, Prio: 3}, {ID: 0, Prio: -1}, {ID: math.MaxInt, Prio: math.MinInt}, {ID: math.MinInt, Prio: math.MaxInt}} {
		is(t, "Push", q.Push(r), api.OK)
	}
	holds(t, q, math.MaxInt, 0, 9, 10, -4, 2, 5, 1, math.MinInt)
	if !q.Drop(9) || q.Drop(9) || q.Drop(77) {
		t.Error("Drop")
	}
	if !q.Drop(math.MaxInt) || !q.Drop(math.MinInt) {
		t.Error("Drop at the ends")
	}
	holds(t, q, 0, 10, -4, 2, 5, 1)
}

func TestRequestsAreWhole(t *testing.T) {
	r := api.Req{ID: 4, Host: "h", Path: "p", Prio: 2, Until: 9}
	q := New(1)
	is(t, "Push", q.Push(r), api.OK)
	if got, ok := q.First(); !ok || got != r {
		t.Error("First", got)
	}
	if got := q.All(); len(got) != 1 || got[0] != r {
		t.Error("All", got)
	}
}

func TestPushAndBack(t *testing.T) {
	q := New(2)
	is(t, "Push", q.Push(api.Req{ID: 1}), api.OK)
	is(t, "Push again", q.Push(api.Req{ID: 1, Prio: 5}), api.ErrDup)
	is(t, "Push", q.Push(api.Req{ID: 2}), api.OK)
	is(t, "Push without room", q.Push(api.Req{ID: 3}), api.ErrFull)
	is(t, "Push again, without room", q.Push(api.Req{ID: 2}), api.ErrDup)
	if !q.Back(api.Req{ID: 3, Prio: -1}) || q.Back(api.Req{ID: 3}) || q.Back(api.Req{ID: 1}) {
		t.Error("Back")
	}
	holds(t, q, 3, 1, 2)
	is(t, "Push without room", q.Push(api.Req{ID: 4}), api.ErrFull)
	q.Drop(1)
	is(t, "Push without room", q.Push(api.Req{ID: 4}), api.ErrFull)
	q.Drop(3)
	is(t, "Push", q.Push(api.Req{ID: 4}), api.OK)
	holds(t, q, 2, 4)
	for _, most := range []int{0, -1, math.MinInt} {
		q := New(most)
		is(t, "Push", q.Push(api.Req{}), api.ErrFull)
		if !q.Back(api.Req{}) {
			t.Error("Back")
		}
		is(t, "Push", q.Push(api.Req{}), api.ErrDup)
	}
	is(t, "Push with much room", New(math.MaxInt).Push(api.Req{}), api.OK)
}

func TestLate(t *testing.T) {
	q := New(9)
	for id, until := range []int{0, 10, 11, 9, -5, 1, math.MaxInt, math.MinInt} {
		is(t, "Push", q.Push(api.Req{ID: id, Until: until, Prio: 9 - id}), api.OK)
	}
	if got := q.Late(math.MinInt); len(got) != 0 {
		t.Error("Late", got)
	}
	if got := q.Late(0); len(got) != 0 {
		t.Error("Late", got)
	}
	if got := q.Late(1); len(got) != 0 {
		t.Error("Late", got)
	}
	if got := ids(q.Late(10)); !slices.Equal(got, []int{5, 3}) {
		t.Error("Late", got)
	}
	if got := q.Late(10); len(got) != 0 {
		t.Error("Late once more", got)
	}
	holds(t, q, 7, 6, 4, 2, 1, 0)
	if got := ids(q.Late(math.MaxInt)); !slices.Equal(got, []int{2, 1}) {
		t.Error("Late", got)
	}
	holds(t, q, 7, 6, 4, 0)
}

func TestMemory(t *testing.T) {
	q := New(5)
	for id := range 4 {
		q.Push(api.Req{ID: id, Until: id % 2})
	}
	list := q.All()
	list[0].ID = 99
	_ = append(list[:1], api.Req{ID: 98})
	late := q.Late(9)
	late[0].ID = 97
	_ = append(late[:1], api.Req{ID: 96})
	holds(t, q, 0, 2)
}

func TestNil(t *testing.T) {
	var q *Queue
	is(t, "Push", q.Push(api.Req{}), api.ErrArg)
	if q.Back(api.Req{}) || q.Drop(0) || q.Late(5) != nil || q.Len() != 0 || q.All() != nil {
		t.Error("a nil Queue")
	}
	if r, ok := q.First(); ok || r != (api.Req{}) {
		t.Error("First", r)
	}
	var zero Queue
	is(t, "Push", zero.Push(api.Req{}), api.ErrFull)
	if !zero.Back(api.Req{}) || zero.Len() != 1 {
		t.Error("a zero Queue")
	}
}

func TestAgainstAModel(t *testing.T) {
	r := rand.New(rand.NewSource(1))
	q, model := New(20), map[int]api.Req{}
	for range 5000 {
		req := api.Req{ID: r.Intn(40), Prio: r.Intn(8), Until: r.Intn(50)}
		_, present := model[req.ID]
		switch r.Intn(5) {
		case 0, 1:
			want := api.OK
			if present {
				want = api.ErrDup
			} else if len(model) >= 20 {
				want = api.ErrFull
			} else {
				model[req.ID] = req
			}
			is(t, "Push", q.Push(req), want)
		case 2:
			if q.Back(req) == present {
				t.Fatal("Back")
			}
			if !present {
				model[req.ID] = req
			}
		case 3:
			if q.Drop(req.ID) != present {
				t.Fatal("Drop")
			}
			delete(model, req.ID)
		case 4:
			now := r.Intn(12)
			for _, late := range q.Late(now) {
				if model[late.ID] != late || late.Until == 0 || late.Until >= now {
					t.Fatal("Late")
				}
				delete(model, late.ID)
			}
		}
		var want []api.Req
		for _, req := range model {
			want = append(want, req)
		}
		slices.SortFunc(want, func(a, b api.Req) int { return cmp.Or(a.Prio-b.Prio, a.ID-b.ID) })
		if !slices.Equal(q.All(), want) {
			t.Fatal("another order")
		}
	}
}
