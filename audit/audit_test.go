package audit

import (
	"math"
	"testing"

	"decorum/api"
)

func event(kind, at, id int, host string) api.Event {
	return api.Event{Kind: kind, At: at, Req: api.Req{ID: id, Host: host}}
}

func sent(times ...int) []api.Event {
	var list []api.Event
	for i, at := range times {
		list = append(list, event([]int{api.Sent, api.Asked}[i%2], at, i, "a"))
	}
	return list
}

func TestGaps(t *testing.T) {
	for i, c := range []struct {
		list  []api.Event
		floor int
		want  bool
	}{
		{nil, 100, true}, {nil, math.MaxInt, true}, {sent(5), math.MaxInt, true},
		{sent(0, 100, 200), 100, true}, {sent(0, 100, 199), 100, false}, {sent(0, 99, 200), 100, false},
		{sent(5, 5), 0, true}, {sent(5, 5), -1, true}, {sent(5, 5), 1, false}, {sent(5, 4), 0, false}, {sent(5, 4), -1, true},
		{[]api.Event{event(api.Sent, 0, 1, "a"), event(api.Sent, 1, 2, "b"), event(api.Asked, 100, 3, "a"), event(api.Asked, 101, 4, "b")}, 100, true},
		{[]api.Event{event(api.Sent, 0, 1, "a"), event(api.Sent, 50, 2, "b"), event(api.Asked, 99, 3, "a")}, 100, false},
		{[]api.Event{event(api.Sent, 0, 1, "a"), event(api.Late, 10, 2, "a"), event(api.Barred, 20, 2, "a"), event(api.Nothing, 30, 2, "a"), event(9, 40, 2, "a"), event(api.Sent, 100, 3, "a")}, 100, true},
		{[]api.Event{event(api.Asked, 0, 1, "a"), event(api.Late, 50, 2, "a"), event(api.Sent, 99, 3, "a")}, 100, false},
		{sent(math.MinInt, math.MaxInt), api.MaxInt, true}, {sent(math.MinInt, math.MaxInt), api.MaxInt + 1, false}, {sent(math.MinInt, math.MaxInt), math.MaxInt, false},
		{sent(math.MaxInt, math.MinInt), math.MinInt, true}, {sent(math.MaxInt, math.MinInt), -api.MaxInt, true}, {sent(math.MaxInt, math.MinInt), -api.MaxInt + 1, false},
		{sent(api.MaxInt, math.MaxInt), 0, true}, {sent(api.MaxInt, math.MaxInt), 1, false},
	} {
		if got := Gaps(c.list, c.floor); got != c.want {
			t.Errorf("%d: Gaps with %d: %v", i, c.floor, got)
		}
	}
}

func TestRate(t *testing.T) {
	for i, c := range []struct {
		list        []api.Event
		rate, burst int
		want        bool
	}{
		{nil, 0, 0, true}, {nil, -1, -1, true},
		{sent(5), 0, 1, true}, {sent(5), math.MaxInt, 0, false}, {sent(5), 0, -1, false},
		{sent(0, 0, 0), 1, 3, true}, {sent(0, 0, 0), 1, 2, false}, {sent(0, 0, 0, 999), 1, 3, false}, {sent(0, 0, 0, 1000), 1, 3, true},
		{sent(0, 0, 0, 500), 2, 3, true}, {sent(0, 0, 0, 499), 2, 3, false},
		{sent(0, 10000, 10000, 10000), 1, 3, true}, {sent(0, 10000, 10000, 10000, 10000), 1, 3, false}, {sent(0, 10000, 10000, 11000, 20000), 1, 2, true}, {sent(0, 10000, 10000, 10999, 20000), 1, 2, false},
		{sent(0, 1000, 2000, 3000), 1, 1, true}, {sent(0, 1000, 1999, 3000), 1, 1, false},
		{[]api.Event{event(api.Sent, 0, 1, "a"), event(api.Late, 0, 2, "a"), event(api.Barred, 0, 3, "a"), event(api.Nothing, 0, 4, "a"), event(7, 0, 4, "a"), event(api.Asked, 0, 5, "b")}, 1, 2, true},
		{[]api.Event{event(api.Sent, 0, 1, "a"), event(api.Late, 0, 2, "a"), event(api.Asked, 0, 5, "b")}, 1, 1, false},
		{sent(1000, 0), 1, 2, false}, {sent(1000, 0), 1, 3, true}, {sent(1000, 0), -1, 1, true}, {sent(0, 1000), -1, 2, false}, {sent(0, 1000), -1, 3, true},
		{sent(math.MinInt, math.MaxInt), 1, 1, true}, {sent(math.MinInt, math.MaxInt), math.MaxInt, math.MaxInt, true}, {sent(math.MinInt, math.MaxInt), math.MinInt, math.MaxInt, false}, {sent(math.MaxInt, math.MinInt), 1, math.MaxInt, false},
	} {
		if got := Rate(c.list, c.rate, c.burst); got != c.want {
			t.Errorf("%d: Rate(%d, %d): %v", i, c.rate, c.burst, got)
		}
	}
}

func TestCounts(t *testing.T) {
	if Counts(nil) != [5]int{} {
		t.Error("Counts of nothing")
	}
	var list []api.Event
	for kind, n := range []int{3, 1, 4, 2, 5} {
		for range n {
			list = append(list, event(kind, 0, 1, "a"))
		}
	}
	list = append(list, event(-1, 0, 1, "a"), event(5, 0, 1, "a"), event(math.MaxInt, 0, 1, "a"), event(math.MinInt, 0, 1, "a"))
	if got := Counts(list); got != [5]int{3, 1, 4, 2, 5} {
		t.Error("Counts", got)
	}
}

func TestOnce(t *testing.T) {
	for i, c := range []struct {
		list []api.Event
		want bool
	}{
		{nil, true},
		{[]api.Event{event(api.Sent, 0, 1, "a"), event(api.Sent, 1, 2, "a")}, true},
		{[]api.Event{event(api.Sent, 0, 1, "a"), event(api.Sent, 1, 2, "a"), event(api.Sent, 2, 1, "b")}, false},
		{[]api.Event{event(api.Asked, 0, -1, "a"), event(api.Asked, 1, -1, "a"), event(api.Sent, 1, -1, "a")}, true},
		{[]api.Event{event(api.Late, 0, 1, "a"), event(api.Barred, 1, 1, "a"), event(api.Sent, 1, 1, "a"), event(api.Nothing, 1, 1, "a"), event(9, 1, 1, "a")}, true},
		{[]api.Event{event(api.Sent, 0, 0, "a"), event(api.Sent, 0, 0, "a")}, false},
		{[]api.Event{event(api.Asked, 0, -1, "a"), event(api.Sent, 0, 4, "a"), event(api.Late, 0, 4, "a"), event(api.Sent, 0, 4, "a")}, false},
		{[]api.Event{event(api.Sent, 0, -3, "a"), event(api.Sent, 0, -3, "a")}, false},
	} {
		if got := Once(c.list); got != c.want {
			t.Errorf("%d: Once: %v", i, got)
		}
	}
}
