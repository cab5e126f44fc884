package date

import (
	"math"
	"strings"
	"testing"
	"time"
)

const example = 784111777 // Sun, 06 Nov 1994 08:49:37 GMT

func TestThreeForms(t *testing.T) {
	for _, s := range []string{"Sun, 06 Nov 1994 08:49:37 GMT", "Sunday, 06-Nov-94 08:49:37 GMT", "Sun Nov  6 08:49:37 1994"} {
		if got, ok := Parse(s, example); !ok || got != example {
			t.Errorf("%s: %d %v", s, got, ok)
		}
	}
	if got, ok := Parse("Wed Nov 16 08:49:37 1994", 0); !ok || got != example+10*86400 {
		t.Error("a day of two digits", got, ok)
	}
}

func TestMomentsAtTheEnds(t *testing.T) {
	for s, want := range map[string]int{
		"Thu, 01 Jan 1970 00:00:00 GMT":    0,
		"Wed, 31 Dec 1969 23:59:59 GMT":    -1,
		"Sat, 01 Jan 0000 00:00:00 GMT":    -719528 * 86400,
		"Fri, 31 Dec 9999 23:59:59 GMT":    2932896*86400 + 86399,
		"Tue, 29 Feb 2000 12:00:00 GMT":    951825600,
		"Thu Jan  1 00:00:01 1970":         1,
		"Thursday, 01-Jan-70 00:01:00 GMT": 60,
	} {
		if got, ok := Parse(s, 0); !ok || got != want {
			t.Errorf("%s: %d %v, not %d", s, got, ok, want)
		}
	}
}

func TestNotATime(t *testing.T) {
	for _, s := range []string{
		"", "Sun", "Sun, ", "Sun, 06 Nov 1994 08:49:37 GMT ", " Sun, 06 Nov 1994 08:49:37 GMT", "Sun, 06 Nov 1994 08:49:37", "Sun, 06 Nov 1994 08:49:37 UTC",
		"Mon, 06 Nov 1994 08:49:37 GMT", "sun, 06 Nov 1994 08:49:37 GMT", "Sun, 06 nov 1994 08:49:37 GMT", "Sun, 06 NOV 1994 08:49:37 GMT", "Sun, 06 Nov 1994 08:49:37 gmt",
		"Sun, 6 Nov 1994 08:49:37 GMT", "Sun,  6 Nov 1994 08:49:37 GMT", "Sun, 006 Nov 1994 08:49:37 GMT", "Sun, 06 Nov 94 08:49:37 GMT", "Sun, 06 Nov 01994 08:49:37 GMT",
		"Sun, 06 Nov 1994 24:00:00 GMT", "Sun, 06 Nov 1994 08:60:00 GMT", "Sun, 06 Nov 1994 08:49:60 GMT", "Sun, 06 Nov 1994 8:49:37 GMT", "Sun, 06 Nov 1994 -8:49:37 GMT",
		"Sun, 00 Nov 1994 08:49:37 GMT", "Thu, 31 Nov 1994 08:49:37 GMT", "Wed, 29 Feb 2001 08:49:37 GMT", "Sunday, 06 Nov 1994 08:49:37 GMT", "Sun 06 Nov 1994 08:49:37 GMT",
		"Sun, 06-Nov-94 08:49:37 GMT", "Monday, 06-Nov-94 08:49:37 GMT", "Sunday, 06-Nov-1994 08:49:37 GMT", "Sunday, 6-Nov-94 08:49:37 GMT", "Sunday, 06-Nov-94 08:49:37 GMTx",
		"Sunday, 06 Nov 94 08:49:37 GMT", "sunday, 06-Nov-94 08:49:37 GMT", "Sund, 06-Nov-94 08:49:37 GMT", ", 06-Nov-94 08:49:37 GMT",
		"Sun Nov 06 08:49:37 1994", "Sun Nov 6 08:49:37 1994", "Sun Nov   6 08:49:37 1994", "Sun Nov  0 08:49:37 1994", "Sun Nov  6 08:49:37 94", "Sun Nov  6 08:49:37 1994 GMT", "Sun  Nov  6 08:49:37 1994", "Mon Nov  6 08:49:37 1994", "Sunday Nov  6 08:49:37 1994",
		"Sun, 06 Nov 199\xff 08:49:37 GMT", "Sun, 06 Nov 19\u0664 08:49:37 GMT", "Sun, 06 Nov +994 08:49:37 GMT", "Sun Nov  \u0666 08:49:37 1994", "\xff\xfe",
	} {
		if got, ok := Parse(s, example); ok || got != 0 {
			t.Errorf("%q: %d %v", s, got, ok)
		}
	}
}

func TestTwoDigitYear(t *testing.T) {
	at := func(y int) int { return int(time.Date(y, 6, 1, 0, 0, 0, 0, time.UTC).Unix()) }
	for _, c := range []struct{ digits, now, want int }{
		{94, at(1994), 1994}, {44, at(1994), 2044}, {45, at(1994), 1945}, {0, at(1994), 2000}, {99, at(2026), 1999}, {76, at(2026), 2076}, {77, at(2026), 1977},
		{20, 0, 2020}, {21, 0, 1921}, {20, math.MinInt, 2020}, {21, math.MinInt, 1921}, {15, math.MaxInt, 9015}, {16, math.MaxInt, 8916},
		{50, at(2000) - 200*86400, 1950}, {50, at(2000), 2050}, {99, at(2149), 2199}, {0, at(2150), 2200},
	} {
		want := time.Date(c.want, 1, 1, 0, 0, 0, 0, time.UTC)
		if got, ok := Parse(want.Format("Monday, 02-Jan-06 15:04:05 GMT"), c.now); !ok || got != int(want.Unix()) {
			t.Errorf("%02d at %d: %d %v, not in %d", c.digits, c.now, got, ok, c.want)
		}
	}
}

func TestFormat(t *testing.T) {
	for sec := -719528 * 86400; sec <= 2932896*86400+86399; sec += 86400*17 + 12345 {
		want := time.Unix(int64(sec), 0).UTC().Format("Mon, 02 Jan 2006 15:04:05 GMT")
		got, ok := Format(sec)
		if !ok || got != want {
			t.Fatalf("Format(%d) = %s %v, not %s", sec, got, ok, want)
		}
		if back, ok := Parse(got, 0); !ok || back != sec {
			t.Fatalf("Parse(%s) = %d %v", got, back, ok)
		}
	}
	for _, sec := range []int{-719528*86400 - 1, 2932897 * 86400, math.MinInt, math.MaxInt} {
		if got, ok := Format(sec); ok || got != "" {
			t.Errorf("Format(%d) = %s %v", sec, got, ok)
		}
	}
	for sec, want := range map[int]string{-719528 * 86400: "Sat, 01 Jan 0000 00:00:00 GMT", -1: "Wed, 31 Dec 1969 23:59:59 GMT", 2932896*86400 + 86399: "Fri, 31 Dec 9999 23:59:59 GMT"} {
		if got, ok := Format(sec); !ok || got != want {
			t.Errorf("Format(%d) = %s %v", sec, got, ok)
		}
	}
}

func TestThirdFormEveryDay(t *testing.T) {
	for day := range 3000 {
		moment := time.Date(1990, 1, 1+day, 23, 59, 59, 0, time.UTC)
		s := moment.Format(time.ANSIC)
		if got, ok := Parse(s, 0); !ok || got != int(moment.Unix()) {
			t.Fatalf("%s: %d %v", s, got, ok)
		}
		if got, ok := Parse(strings.Replace(s, "  ", " 0", 1), 0); ok && strings.Contains(s, "  ") {
			t.Fatalf("%s with a 0: %d", s, got)
		}
	}
}
