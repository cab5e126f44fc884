package back

import (
	"math"
	"testing"

	"decorum/api"
)

func TestMost(t *testing.T) {
	for _, c := range []struct{ base, most, exp, want int }{
		{100, 100000, 0, 0}, {100, 100000, -1, 0}, {100, 100000, math.MinInt, 0},
		{100, 100000, 1, 100}, {100, 100000, 2, 200}, {100, 100000, 3, 400}, {100, 100000, 10, 51200}, {100, 100000, 11, 100000},
		{1, math.MaxInt, 15, 1 << 14}, {1, math.MaxInt, 16, 1 << 15}, {1, math.MaxInt, 17, 1 << 15}, {1, math.MaxInt, math.MaxInt, 1 << 15},
		{0, 100, 5, 0}, {-7, 100, 5, 0}, {math.MinInt, 100, 5, 0}, {100, 0, 5, 0}, {100, -1, 5, 0}, {100, math.MinInt, 1, 0}, {100, 50, 1, 50},
		{math.MaxInt, math.MaxInt, 1, api.MaxInt}, {math.MaxInt, 5, 16, 5}, {1 << 61, math.MaxInt, 2, api.MaxInt}, {api.MaxMs, math.MaxInt, 16, api.MaxMs << 15},
	} {
		if got := Most(c.base, c.most, c.exp); got != c.want {
			t.Errorf("Most(%d, %d, %d) = %d, not %d", c.base, c.most, c.exp, got, c.want)
		}
	}
}

func TestJitter(t *testing.T) {
	for _, c := range []struct{ wait, draw, want int }{
		{0, 0, 0}, {0, 1000, 0}, {100, 0, 50}, {100, 1000, 100}, {100, 500, 75}, {101, 0, 50}, {101, 1000, 101}, {101, 500, 75}, {101, 999, 100},
		{1, 0, 0}, {1, 999, 0}, {1, 1000, 1}, {3, 500, 2}, {2000, 1, 1001}, {1999, 1, 1000}, {1998, 1, 999},
		{100, -1, 50}, {100, math.MinInt, 50}, {100, 1001, 100}, {100, math.MaxInt, 100}, {-1, 500, 0}, {math.MinInt, 1000, 0},
		{api.MaxMs, 1000, api.MaxMs}, {api.MaxMs + 1, 1000, api.MaxMs}, {math.MaxInt, math.MaxInt, api.MaxMs}, {math.MaxInt, 0, api.MaxMs / 2}, {api.MaxMs, 500, api.MaxMs / 4 * 3},
	} {
		if got := Jitter(c.wait, c.draw); got != c.want {
			t.Errorf("Jitter(%d, %d) = %d, not %d", c.wait, c.draw, got, c.want)
		}
	}
}

func TestUp(t *testing.T) {
	for exp, want := range map[int]int{0: 1, 1: 2, 14: 15, 15: 16, 16: 16, 17: 16, math.MaxInt: 16, -1: 1, math.MinInt: 1} {
		if got := Up(exp); got != want {
			t.Errorf("Up(%d) = %d, not %d", exp, got, want)
		}
	}
}
