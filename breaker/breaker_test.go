package breaker

import (
	"math"
	"testing"

	"decorum/api"
)

func TestMay(t *testing.T) {
	for _, c := range []struct {
		b           Breaker
		now, flying int
		want        bool
	}{
		{Breaker{api.Closed, 9, 100}, 0, 50, true}, {Breaker{}, math.MinInt, math.MaxInt, true},
		{Breaker{api.Opened, 0, 100}, 99, 0, false}, {Breaker{api.Opened, 0, 100}, 100, 0, true}, {Breaker{api.Opened, 0, 100}, 101, 0, true}, {Breaker{api.Opened, 0, 100}, 100, 1, false}, {Breaker{api.Opened, 0, 100}, 100, -1, true}, {Breaker{api.Opened, 0, 100}, 99, -1, false},
		{Breaker{api.Half, 0, 100}, 0, 0, true}, {Breaker{api.Half, 0, 100}, 0, -5, true}, {Breaker{api.Half, 0, 100}, 500, 1, false},
		{Breaker{3, 0, 100}, 0, 0, true}, {Breaker{3, 0, 100}, 500, 1, false}, {Breaker{-1, 0, 100}, 0, 0, true}, {Breaker{math.MinInt, 0, 0}, 0, 2, false},
	} {
		if got := May(c.b, c.now, c.flying); got != c.want {
			t.Errorf("May(%+v, %d, %d) = %v", c.b, c.now, c.flying, got)
		}
	}
}

func TestSend(t *testing.T) {
	for _, c := range []struct {
		b    Breaker
		now  int
		want int
	}{
		{Breaker{api.Closed, 3, 100}, 200, api.Closed}, {Breaker{api.Opened, 3, 100}, 99, api.Opened}, {Breaker{api.Opened, 3, 100}, 100, api.Half}, {Breaker{api.Opened, 3, 100}, 101, api.Half},
		{Breaker{api.Half, 3, 100}, 200, api.Half}, {Breaker{7, 3, 100}, 200, 7}, {Breaker{-7, -3, -100}, 200, -7},
	} {
		want := c.b
		want.State = c.want
		if got := Send(c.b, c.now); got != want {
			t.Errorf("Send(%+v, %d) = %+v", c.b, c.now, got)
		}
	}
}

func TestGood(t *testing.T) {
	for _, b := range []Breaker{{}, {api.Opened, 3, 100}, {api.Half, 9, math.MaxInt}, {5, -5, -5}} {
		if got := Good(b); got != (Breaker{api.Closed, 0, 0}) {
			t.Errorf("Good(%+v) = %+v", b, got)
		}
	}
}

func TestFail(t *testing.T) {
	for _, c := range []struct {
		b               Breaker
		now, most, open int
		want            Breaker
	}{
		{Breaker{}, 10, 3, 50, Breaker{api.Closed, 1, 0}},
		{Breaker{api.Closed, 1, 0}, 10, 3, 50, Breaker{api.Closed, 2, 0}},
		{Breaker{api.Closed, 2, 0}, 10, 3, 50, Breaker{api.Opened, 3, 60}},
		{Breaker{api.Closed, 7, 0}, 10, 3, 50, Breaker{api.Opened, 8, 60}},
		{Breaker{}, 10, 1, 50, Breaker{api.Opened, 1, 60}},
		{Breaker{}, 10, 0, 50, Breaker{api.Opened, 1, 60}},
		{Breaker{}, 10, math.MinInt, 50, Breaker{api.Opened, 1, 60}},
		{Breaker{api.Half, 0, 20}, 10, 9, 50, Breaker{api.Opened, 1, 60}},
		{Breaker{api.Half, 0, 70}, 10, 9, 50, Breaker{api.Opened, 1, 70}},
		{Breaker{api.Opened, 3, 60}, 20, 3, 50, Breaker{api.Opened, 4, 70}},
		{Breaker{api.Opened, 3, 90}, 20, 3, 50, Breaker{api.Opened, 4, 90}},
		{Breaker{api.Opened, 0, 60}, 20, 3, 50, Breaker{api.Opened, 1, 60}},
		{Breaker{5, 0, 60}, 20, 3, 50, Breaker{5, 1, 60}},
		{Breaker{5, 2, 60}, 20, 3, 50, Breaker{api.Opened, 3, 70}},
		{Breaker{api.Closed, -9, 0}, 10, 3, 50, Breaker{api.Closed, 1, 0}},
		{Breaker{api.Closed, math.MinInt, 0}, 10, 3, 50, Breaker{api.Closed, 1, 0}},
		{Breaker{api.Closed, math.MaxInt, 0}, 10, math.MaxInt, 50, Breaker{api.Closed, api.MaxMs + 1, 0}},
		{Breaker{api.Closed, api.MaxMs, 0}, 10, api.MaxMs + 1, 50, Breaker{api.Opened, api.MaxMs + 1, 60}},
		{Breaker{api.Half, 0, 0}, math.MaxInt, 9, math.MaxInt, Breaker{api.Opened, 1, api.MaxInt}},
		{Breaker{api.Half, 0, math.MinInt}, math.MinInt, 9, math.MinInt, Breaker{api.Opened, 1, -api.MaxInt}},
		{Breaker{api.Half, 0, 5}, 10, 9, -50, Breaker{api.Opened, 1, 5}},
	} {
		if got := Fail(c.b, c.now, c.most, c.open); got != c.want {
			t.Errorf("Fail(%+v, %d, %d, %d) = %+v, not %+v", c.b, c.now, c.most, c.open, got, c.want)
		}
	}
}
