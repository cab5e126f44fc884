package feed

import (
	"math"
	"strings"
	"testing"

	"decorum/api"
)

func TestClass(t *testing.T) {
	for status, want := range map[int]int{
		200: api.Good, 204: api.Good, 299: api.Good, 301: api.Good, 304: api.Good, 399: api.Good,
		400: api.Gone, 404: api.Gone, 410: api.Gone, 428: api.Gone, 430: api.Gone, 499: api.Gone,
		429: api.Slow, 503: api.Slow,
		500: api.Bad, 502: api.Bad, 504: api.Bad, 599: api.Bad, 600: api.Bad, 199: api.Bad, 100: api.Bad, 0: api.Bad, -200: api.Bad, math.MaxInt: api.Bad, math.MinInt: api.Bad,
	} {
		if got := Class(status); got != want {
			t.Errorf("Class(%d) = %d", status, got)
		}
	}
}

func TestRetry(t *testing.T) {
	const example = 784111777000
	for _, c := range []struct {
		value     string
		now, want int
	}{
		{"0", 0, 0}, {"0", 7, 7}, {"120", 5, 120005}, {" \t120\t ", 5, 120005}, {"0007", 1, 7001},
		{"1099511627", 0, 1099511627000}, {"1099511628", 0, api.MaxMs}, {"1", api.MaxMs - 1, api.MaxMs}, {"99999999999999999999999999", 3, api.MaxMs}, {"9223372036854775808", 0, api.MaxMs}, {"9223372036854775807", 0, api.MaxMs},
		{"1", -5, 1000}, {"0", math.MinInt, 0}, {"1", math.MaxInt, api.MaxMs},
		{"Sun, 06 Nov 1994 08:49:37 GMT", 0, example}, {" Sun Nov  6 08:49:37 1994\t", example + 1, example}, {"Sunday, 06-Nov-94 08:49:37 GMT", example, example},
		{"Thu, 01 Jan 1970 00:00:00 GMT", 5, 0}, {"Thu, 01 Jan 1970 00:00:01 GMT", 5000, 1000}, {"Fri, 31 Dec 9999 23:59:59 GMT", 5, api.MaxMs},
		{"Thursday, 01-Jan-70 00:00:00 GMT", -1, 0}, {"Wednesday, 01-Jan-20 00:00:00 GMT", 0, api.MaxMs},
	} {
		if got, ok := Retry(c.value, c.now); !ok || got != c.want {
			t.Errorf("Retry(%q, %d) = %d %v, not %d", c.value, c.now, got, ok, c.want)
		}
	}
	for _, value := range []string{"", " ", "\t", "-1", "+1", "1.5", "1 2", "0x1", "١", "1\n", "soon", "Wed, 31 Dec 1969 23:59:59 GMT", "Mon, 06 Nov 1994 08:49:37 GMT", "Sun, 06 Nov 1994 08:49:37", "\xff"} {
		if got, ok := Retry(value, 1000); ok || got != 0 {
			t.Errorf("Retry(%q) = %d", value, got)
		}
	}
}

// The year that two digits mean depends on now, which is in milliseconds.
func TestRetryWithTwoDigits(t *testing.T) {
	const y1971 = 31536000 * 1000
	if got, ok := Retry("Friday, 01-Jan-21 00:00:00 GMT", y1971); !ok || got != api.MaxMs {
		t.Error("2021, seen from 1971", got, ok)
	}
	if _, ok := Retry("Friday, 01-Jan-21 00:00:00 GMT", y1971-1); ok {
		t.Error("1921, seen from 1970")
	}
}

func headers(pairs ...string) []api.Header {
	var list []api.Header
	for i := 0; i < len(pairs); i += 2 {
		list = append(list, api.Header{Name: pairs[i], Value: pairs[i+1]})
	}
	return list
}

func TestReset(t *testing.T) {
	for _, c := range []struct {
		list []api.Header
		want int
	}{
		{headers("RateLimit", "limit=10, remaining=0, reset=7"), 7},
		{headers("ratelimit", "remaining=-1, reset=7"), 7},
		{headers("RATELIMIT", "\t remaining=0, reset=0 \t"), 0},
		{headers("RateLimit", "remaining=5, remaining=0, reset=1, reset=9"), 9},
		{headers("RateLimit", `"a";r=0;t=5, "b";r=-2;t=8, "c";r=1;t=100, "d";r=0;t=-1, "e";r=0, "f";t=50, g;r=0;t=6`), 8},
		{headers("RateLimit", `remaining=3, reset=7, "a";r=0;t=5`), 5},
		{headers("RateLimit", `remaining=0, "a";r=0;t=5`), 5},
		{headers("RateLimit", `remaining=0, reset=x, "a";r=0;t=5`), 5},
		{headers("RateLimit", `"a";r=0;t=5, remaining=0, reset=3`), 3},
		{headers("RateLimit", `"a";r=0;t=0`), 0},
		{headers("X-RateLimit-Remaining", "0", "X-RateLimit-Reset", "4"), 4},
		{headers("x-ratelimit-remaining", " 000\t", "x-ratelimit-reset", "\t04 "), 4},
		{headers("RateLimit", "remaining=1, reset=7", "X-RateLimit-Remaining", "0", "X-RateLimit-Reset", "4"), 4},
		{headers("RateLimit", "!", "X-RateLimit-Remaining", "0", "X-RateLimit-Reset", "4"), 4},
		{headers("RateLimit", "remaining=0, reset=7", "X-RateLimit-Remaining", "0", "X-RateLimit-Reset", "4"), 7},
		{headers("RateLimit", `"a";r=0;t=2`, "X-RateLimit-Remaining", "0", "X-RateLimit-Reset", "4"), 2},
		{headers("RateLimit", "remaining=0, reset=7", "RateLimit", "remaining=0, reset=3"), 3},
		{headers("X-RateLimit-Remaining", "1", "X-RateLimit-Remaining", "0", "X-RateLimit-Reset", "9", "X-RateLimit-Reset", "4"), 4},
	} {
		if got, ok := Reset(c.list, 50); !ok || got != 50+1000*c.want {
			t.Errorf("Reset(%v) = %d %v, not %d", c.list, got, ok, 50+1000*c.want)
		}
	}
}

func TestNoReset(t *testing.T) {
	for _, list := range [][]api.Header{
		nil,
		headers("RateLimit", ""),
		headers("RateLimit", "remaining=1, reset=7"),
		headers("RateLimit", "remaining=0"),
		headers("RateLimit", "reset=7"),
		headers("RateLimit", "remaining=0, reset=-1", "X-RateLimit-Remaining", "0", "X-RateLimit-Reset", "4"),
		headers("RateLimit", `remaining=0, reset=-1, "a";r=0;t=5`),
		headers("RateLimit", `"a";r=0;t=-5`),
		headers("RateLimit", "remaining=0, reset=7", "RateLimit", ""),
		headers("RateLimit ", "remaining=0, reset=7"),
		headers("Rate-Limit", "remaining=0, reset=7"),
		headers("X-RateLimit-Remaining", "0"),
		headers("X-RateLimit-Reset", "4"),
		headers("X-RateLimit-Remaining", "1", "X-RateLimit-Reset", "4"),
		headers("X-RateLimit-Remaining", "-0", "X-RateLimit-Reset", "4"),
		headers("X-RateLimit-Remaining", "0", "X-RateLimit-Reset", "-4"),
		headers("X-RateLimit-Remaining", "", "X-RateLimit-Reset", "4"),
		headers("X-RateLimit-Remaining", "0", "X-RateLimit-Reset", ""),
		headers("X-RateLimit-Remaining", "0", "X-RateLimit-Reset", "Sun, 06 Nov 1994 08:49:37 GMT"),
		headers("X-Rate\u017fimit-Remaining", "0", "X-RateLimit-Reset", "4"),
		headers("X-RateLimit-Remaining", "0", "X-RateLimit-Re\u017fet", "4"),
		headers("X-RateLimit-Remaining", strings.Repeat("0", 30)+"1", "X-RateLimit-Reset", "4"),
	} {
		if got, ok := Reset(list, 50); ok || got != 0 {
			t.Errorf("Reset(%v) = %d", list, got)
		}
	}
}

func TestResetAtTheEnds(t *testing.T) {
	list := headers("RateLimit", "remaining=0, reset=999999999999999")
	for _, now := range []int{0, -1, math.MinInt, math.MaxInt} {
		if got, ok := Reset(list, now); !ok || got != api.MaxMs {
			t.Errorf("%d: %d %v", now, got, ok)
		}
	}
	if got, ok := Reset(headers("X-RateLimit-Remaining", "0", "X-RateLimit-Reset", strings.Repeat("9", 40)), 5); !ok || got != api.MaxMs {
		t.Error(got, ok)
	}
	if got, ok := Reset(headers("RateLimit", "remaining=0, reset=0"), math.MinInt); !ok || got != 0 {
		t.Error(got, ok)
	}
}

func TestFrom(t *testing.T) {
	for _, c := range []struct {
		status int
		list   []api.Header
		want   api.Feedback
	}{
		{200, nil, api.Feedback{Class: api.Good}},
		{503, headers("retry-AFTER", "1", "RateLimit", "remaining=0, reset=2"), api.Feedback{Class: api.Slow, Retry: 1100, Reset: 2100}},
		{404, headers("Retry-After", "5", "Retry-After", " 3 "), api.Feedback{Class: api.Gone, Retry: 3100}},
		{500, headers("Retry-After", "5", "Retry-After", "soon"), api.Feedback{Class: api.Bad}},
		{429, headers("X-RateLimit-Remaining", "0", "X-RateLimit-Reset", "4"), api.Feedback{Class: api.Slow, Reset: 4100}},
	} {
		if got := From(c.status, c.list, 100); got != c.want {
			t.Errorf("From(%d, %v) = %+v, not %+v", c.status, c.list, got, c.want)
		}
	}
}
