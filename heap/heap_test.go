package heap

import (
	"math"
	"math/bits"
	"math/rand"
	"testing"
)

// first finds the least key, and the least number with it, by looking at all.
func first(model map[int]int) (id, key int) {
	id, key = math.MaxInt, math.MaxInt
	for i, k := range model {
		if k < key || k == key && i < id {
			id, key = i, k
		}
	}
	return id, key
}

func check(t *testing.T, h *Heap, model map[int]int) {
	t.Helper()
	before := h.Work()
	if h.Len() != len(model) {
		t.Fatalf("Len is %d, not %d", h.Len(), len(model))
	}
	id, key, ok := h.Min()
	if ok != (len(model) > 0) {
		t.Fatalf("Min: %v", ok)
	}
	if i, k := first(model); ok && (i != id || k != key) {
		t.Fatalf("Min is %d %d, not %d %d", id, key, i, k)
	}
	for i, k := range model {
		if got, ok := h.Key(i); !ok || got != k {
			t.Fatalf("Key(%d) = %d %v, not %d", i, got, ok, k)
		}
	}
	if h.Work() != before {
		t.Fatal("Min, Key or Len compares keys")
	}
}

func TestAgainstAModel(t *testing.T) {
	for seed := range int64(30) {
		r := rand.New(rand.NewSource(seed))
		span := []int{2, 10, 1 << 40}[seed%3]
		h, model := New(), map[int]int{}
		for range 2000 {
			id := r.Intn(60) - 30
			before, n := h.Work(), h.Len()
			_, present := model[id]
			if r.Intn(3) > 0 {
				key := r.Intn(span) - span/2
				h.Set(id, key)
				model[id] = key
				others := n
				if present {
					others--
				}
				if others > 0 && h.Work() == before {
					t.Fatal("a Set without a comparison")
				}
			} else {
				if h.Drop(id) != present {
					t.Fatalf("Drop(%d) is not %v", id, present)
				}
				delete(model, id)
			}
			if used := h.Work() - before; used > 3*bits.Len(uint(n))+3 {
				t.Fatalf("%d comparisons with %d numbers", used, n)
			}
			check(t, h, model)
		}
		for len(model) > 0 {
			id, _, _ := h.Min()
			if !h.Drop(id) {
				t.Fatal("Drop of the first one")
			}
			delete(model, id)
			check(t, h, model)
		}
	}
}

func TestWorkInALargeHeap(t *testing.T) {
	const size = 5000
	h := New()
	set := func(id, key int) {
		before, n := h.Work(), h.Len()
		h.Set(id, key)
		if used := h.Work() - before; used > 3*bits.Len(uint(n))+3 || n > 1 && used < 1 {
			t.Fatalf("Set(%d, %d): %d comparisons with %d numbers", id, key, used, n)
		}
	}
	for i := range size {
		set(i, size-i)
	}
	for i := range size {
		set(i, size-i)
		set(i, i*i)
		set(i, -i)
	}
	for i := range size {
		before, n := h.Work(), h.Len()
		if !h.Drop(size - 1 - i) {
			t.Fatal("Drop")
		}
		if used := h.Work() - before; used > 3*bits.Len(uint(n))+3 {
			t.Fatalf("Drop: %d comparisons with %d numbers", used, n)
		}
	}
	if h.Len() != 0 {
		t.Error("numbers are left")
	}
}

func TestExtremes(t *testing.T) {
	h, model := New(), map[int]int{}
	for _, id := range []int{0, math.MaxInt, math.MinInt, -1, 1} {
		for _, key := range []int{math.MaxInt, 0, math.MinInt, 5} {
			h.Set(id, key)
			model[id] = key
			check(t, h, model)
		}
	}
	h.Set(math.MinInt, math.MaxInt)
	h.Set(-1, math.MinInt)
	if id, key, ok := h.Min(); id != -1 || key != math.MinInt || !ok {
		t.Error(id, key, ok)
	}
	if h.Drop(7) {
		t.Error("Drop of a number that is not there")
	}
	if key, ok := h.Key(7); key != 0 || ok {
		t.Error("Key of a number that is not there")
	}
}

func TestEmptyAndNil(t *testing.T) {
	for _, h := range []*Heap{New(), nil, {}} {
		if h.Drop(0) || h.Len() != 0 || h.Work() != 0 {
			t.Error("an empty heap")
		}
		if id, key, ok := h.Min(); id != 0 || key != 0 || ok {
			t.Error("Min")
		}
		if key, ok := h.Key(0); key != 0 || ok {
			t.Error("Key")
		}
		h.Set(3, 4)
		if _, _, ok := h.Min(); ok == (h == nil) || h.Work() != 0 {
			t.Error("after Set")
		}
	}
}
