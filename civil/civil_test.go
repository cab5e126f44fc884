package civil

import (
	"math"
	"testing"
	"time"
)

func TestLeap(t *testing.T) {
	for _, y := range []int{2000, 2004, 1600, 0, -4, -400, 2400, 9996} {
		if !Leap(y) {
			t.Errorf("%d is a leap year", y)
		}
	}
	for _, y := range []int{1900, 2001, 2002, 2003, 2100, -1, -100, 1, 100, math.MaxInt} {
		if Leap(y) {
			t.Errorf("%d is no leap year", y)
		}
	}
	if !Leap(math.MinInt) {
		t.Error("the least year, -2^63, is divisible by 4, and not by 100")
	}
}

func TestLength(t *testing.T) {
	for m, want := range []int{0, 31, 28, 31, 30, 31, 30, 31, 31, 30, 31, 30, 31, 0} {
		if got := Length(1999, m); got != want {
			t.Errorf("month %d has %d days", m, got)
		}
	}
	for _, m := range []int{-1, math.MinInt, math.MaxInt} {
		if Length(2000, m) != 0 {
			t.Errorf("month %d", m)
		}
	}
	if Length(2000, 2) != 29 || Length(1900, 2) != 28 || Length(-4, 2) != 29 {
		t.Error("February")
	}
}

// TestEveryDay walks through all days, beside the library's calendar.
func TestEveryDay(t *testing.T) {
	day := time.Date(0, 1, 1, 0, 0, 0, 0, time.UTC)
	for days := -719528; day.Year() <= 9999; days++ {
		y, m, d, ok := Date(days)
		if !ok || y != day.Year() || m != int(day.Month()) || d != day.Day() {
			t.Fatalf("Date(%d) = %d %d %d %v", days, y, m, d, ok)
		}
		if back, ok := Days(y, m, d); !ok || back != days {
			t.Fatalf("Days(%d, %d, %d) = %d %v, not %d", y, m, d, back, ok, days)
		}
		if got := Weekday(days); got != (int(day.Weekday())+6)%7 {
			t.Fatalf("Weekday(%d) = %d", days, got)
		}
		day = day.AddDate(0, 0, 1)
	}
}

func TestNoSuchDay(t *testing.T) {
	for _, c := range [][3]int{
		{-1, 12, 31}, {10000, 1, 1}, {2000, 0, 1}, {2000, 13, 1}, {2000, 1, 0}, {2000, 1, 32}, {2001, 2, 29}, {1900, 2, 29}, {2000, 4, 31}, {2000, 2, 30},
		{math.MinInt, 1, 1}, {math.MaxInt, 1, 1}, {2000, math.MaxInt, 1}, {2000, math.MinInt, 1}, {2000, 1, math.MaxInt}, {2000, 1, math.MinInt}, {2000, 1, -1},
	} {
		if days, ok := Days(c[0], c[1], c[2]); ok || days != 0 {
			t.Errorf("Days(%v) = %d %v", c, days, ok)
		}
	}
	for _, days := range []int{-719529, 2932897, math.MinInt, math.MaxInt} {
		if y, m, d, ok := Date(days); ok || y != 0 || m != 0 || d != 0 {
			t.Errorf("Date(%d) = %d %d %d %v", days, y, m, d, ok)
		}
	}
	if days, ok := Days(1970, 1, 1); !ok || days != 0 {
		t.Error("the first day", days, ok)
	}
	if _, _, _, ok := Date(2932896); !ok {
		t.Error("the last day")
	}
}

func TestWeekdayForAnyNumber(t *testing.T) {
	for _, c := range []struct{ days, want int }{
		{0, 3}, {3, 6}, {4, 0}, {-1, 2}, {-3, 0}, {-4, 6}, {-7, 3}, {7000000000, 3}, {-7000000001, 2},
		{math.MaxInt, (math.MaxInt%7 + 3) % 7}, {math.MinInt, (math.MinInt%7 + 10) % 7},
	} {
		if got := Weekday(c.days); got != c.want {
			t.Errorf("Weekday(%d) = %d, not %d", c.days, got, c.want)
		}
	}
}
