package fair

import (
	"math"
	"strconv"
	"testing"

	"decorum/api"
	"decorum/audit"
	"decorum/sched"
)

func config() api.Config {
	return api.Config{Hosts: 4, PerHost: 30, Memory: 3, Segs: 7, Floor: 100, Cap: 2, Base: 1000, Most: 8000, Break: 2, Open: 5000, Rate: 10, Burst: 3, Keep: api.MaxMs, Agent: "foo"}
}

func start(t *testing.T, c api.Config, texts ...string) *sched.Sched {
	t.Helper()
	s, e := sched.New(c)
	if e != api.OK {
		t.Fatal("New", e)
	}
	for _, text := range texts {
		if _, e := s.Do(api.Step{Kind: api.StepAdd, Text: text}); e != api.OK {
			t.Fatal("add", text, e)
		}
	}
	return s
}

func TestRun(t *testing.T) {
	s := start(t, config(), "http://a/1", "http://a/2", "http://b/1")
	list, rounds, ok := Run(s, 100, 50)
	want := []api.Event{
		{Kind: api.Asked, At: 0, Req: api.Req{ID: -1, Host: "http://a", Path: "/robots.txt"}},
		{Kind: api.Asked, At: 0, Req: api.Req{ID: -2, Host: "http://b", Path: "/robots.txt"}},
		{Kind: api.Sent, At: 100, Req: api.Req{ID: 1, Host: "http://a", Path: "/1"}},
		{Kind: api.Sent, At: 100, Req: api.Req{ID: 3, Host: "http://b", Path: "/1"}},
		{Kind: api.Sent, At: 200, Req: api.Req{ID: 2, Host: "http://a", Path: "/2"}},
	}
	if !ok || rounds != 3 || len(list) != len(want) || s.Now() != 300 || len(s.Flying()) != 0 {
		t.Fatalf("%d events, %d rounds, %v", len(list), rounds, ok)
	}
	for i, event := range list {
		if event != want[i] {
			t.Errorf("event %d: %+v", i, event)
		}
	}
	if list, rounds, ok := Run(s, 100, 50); list != nil || rounds != 0 || !ok {
		t.Error("once more:", list, rounds, ok)
	}
}

func TestRunTellsLateAndBarred(t *testing.T) {
	s := start(t, config(), "http://a/x")
	s.Do(api.Step{Kind: api.StepAdd, Text: "http://a/late", B: 50})
	s.Do(api.Step{Kind: api.StepPoll})
	s.Do(api.Step{Kind: api.StepAnswer, A: -1, B: 200, Text: "user-agent: *\ndisallow: /x"})
	s.Do(api.Step{Kind: api.StepClock, A: 100})
	list, rounds, ok := Run(s, 1, 9)
	if audit.Counts(list) != [5]int{api.Late: 1, api.Barred: 1} || rounds != 1 || !ok {
		t.Error(list, rounds, ok)
	}
}

func TestRunSoManyTimes(t *testing.T) {
	for most, want := range map[int]int{-1: 0, math.MinInt: 0, 0: 0, 1: 1, 2: 2} {
		s := start(t, config(), "http://a/1", "http://a/2", "http://b/1")
		list, rounds, ok := Run(s, 100, most)
		if rounds != want || ok || len(list) != 2*want || s.Now() != 100*want {
			t.Errorf("%d: %d events, %d rounds, %v", most, len(list), rounds, ok)
		}
	}
	s := start(t, config(), "http://a/1")
	if _, rounds, ok := Run(s, 100, 2); rounds != 2 || !ok {
		t.Error("done in the last round:", rounds, ok)
	}
	if _, rounds, ok := Run(s, 100, 0); rounds != 0 || !ok {
		t.Error("done before:", rounds, ok)
	}
}

func TestRunWhereTimeStandsStill(t *testing.T) {
	for _, step := range []int{0, -1, math.MinInt} {
		s := start(t, config(), "http://a/1")
		list, rounds, ok := Run(s, step, math.MaxInt)
		if len(list) != 1 || rounds != math.MaxInt || ok || s.Now() != 0 {
			t.Errorf("%d: %d events, %d rounds, %v", step, len(list), rounds, ok)
		}
	}
	s := start(t, config(), "http://a/1")
	s.Do(api.Step{Kind: api.StepClock, A: api.MaxMs})
	if list, rounds, ok := Run(s, math.MaxInt, 1<<60); len(list) != 1 || rounds != 1<<60 || ok {
		t.Error("at the end of all time:", len(list), rounds, ok)
	}
	c := config()
	c.Floor = 0
	s = start(t, c, "http://a/1", "http://a/2")
	if list, rounds, ok := Run(s, 0, 5); len(list) != 3 || rounds != 1 || !ok {
		t.Error("without a floor:", len(list), rounds, ok)
	}
}

func TestRunDoesNotAnswerOthers(t *testing.T) {
	s := start(t, config(), "http://a/1")
	Run(s, 100, 1)
	s.Do(api.Step{Kind: api.StepPoll})
	if list, rounds, ok := Run(s, 100, 7); len(list) != 0 || rounds != 7 || ok || len(s.Flying()) != 1 {
		t.Error(list, rounds, ok)
	}
}

func TestRunNil(t *testing.T) {
	if list, rounds, ok := Run(nil, 1, 5); list != nil || rounds != 0 || !ok {
		t.Error(list, rounds, ok)
	}
}

func TestBound(t *testing.T) {
	for _, c := range []struct{ hosts, requests, want int }{
		{4, 10, 15}, {0, 0, 1}, {-5, -5, 1}, {math.MinInt, math.MinInt, 1}, {math.MaxInt, math.MaxInt, api.MaxInt}, {1, math.MaxInt, api.MaxInt}, {64, api.MaxInt - 65, api.MaxInt}, {64, api.MaxInt - 66, api.MaxInt - 1},
	} {
		if got := Bound(api.Config{Hosts: c.hosts}, c.requests); got != c.want {
			t.Errorf("Bound(%d, %d) = %d", c.hosts, c.requests, got)
		}
	}
}

// TestEverythingIsDoneWithinTheBound is the consequence that the chapter draws.
func TestEverythingIsDoneWithinTheBound(t *testing.T) {
	for hosts := 1; hosts <= 4; hosts++ {
		for _, perHost := range []int{1, 2, 9} {
			for _, step := range []int{100, 137, 1000} {
				c := config()
				s := start(t, c)
				n := 0
				for i := range perHost {
					for h := range hosts {
						text := "http://" + string(rune('a'+h)) + "/" + strconv.Itoa(i)
						if _, e := s.Do(api.Step{Kind: api.StepAdd, Text: text, A: i % 3}); e != api.OK {
							t.Fatal(text, e)
						}
						n++
					}
				}
				list, rounds, ok := Run(s, step, Bound(c, n))
				if !ok || rounds > Bound(c, n) || audit.Counts(list)[api.Sent] != n {
					t.Errorf("%d requests: %d rounds, %v", n, rounds, ok)
				}
				if !audit.Gaps(list, c.Floor) || !audit.Rate(list, c.Rate, c.Burst) || !audit.Once(list) {
					t.Errorf("%d requests: not polite", n)
				}
			}
		}
	}
}
