package policy

import (
	"math"
	"reflect"
	"testing"

	"decorum/api"
)

var config = api.Config{Floor: 100, Cap: 2, Base: 1000, Most: 5000, Break: 3, Open: 700, Keep: 60000}

func same(t *testing.T, what string, got, want api.Policy) {
	t.Helper()
	if !reflect.DeepEqual(got, want) {
		t.Errorf("%s: %+v, not %+v", what, got, want)
	}
}

func TestNew(t *testing.T) {
	same(t, "New", New(100, 50), api.Policy{Last: -1, Gap: 100, Retry: 50})
	same(t, "New", New(0, 0), api.Policy{Last: -1})
	same(t, "New", New(-1, -5), api.Policy{Last: -1, Retry: -5})
	same(t, "New", New(math.MinInt, math.MaxInt), api.Policy{Last: -1, Retry: math.MaxInt})
}

func TestEligible(t *testing.T) {
	for i, c := range []struct {
		p    api.Policy
		want int
	}{
		{New(100, 0), 0},
		{New(100, 50), 50},
		{New(100, -50), 0},
		{api.Policy{}, 0},
		{api.Policy{Last: -1, Gap: 500}, 0},
		{api.Policy{Last: 0, Gap: 500}, 500},
		{api.Policy{Last: 10, Gap: 500, Retry: 400, Reset: 300}, 510},
		{api.Policy{Last: 10, Gap: 500, Retry: 600, Reset: 300}, 600},
		{api.Policy{Last: 10, Gap: 500, Retry: 600, Reset: 700}, 700},
		{api.Policy{Last: 10, Gap: 500, Till: 900}, 510},
		{api.Policy{Last: 10, Gap: 500, Till: 900, State: api.Opened}, 900},
		{api.Policy{Last: 10, Gap: 500, Till: 100, State: api.Opened}, 510},
		{api.Policy{Last: 10, Gap: 500, Till: 900, State: api.Half}, 510},
		{api.Policy{Last: -1, Flying: 1}, 0},
		{api.Policy{Last: -1, Flying: 2}, api.Never},
		{api.Policy{Last: -1, Flying: 3}, api.Never},
		{api.Policy{Last: -1, Flying: 1, State: api.Opened}, api.Never},
		{api.Policy{Last: -1, Flying: 1, State: api.Half}, api.Never},
		{api.Policy{Last: -1, Flying: 1, State: 9}, api.Never},
		{api.Policy{Last: -1, Flying: 0, State: 9, Till: 5}, 0},
		{api.Policy{Last: -1, Flying: -5, State: api.Half}, 0},
		{api.Policy{Last: math.MaxInt, Gap: math.MaxInt}, api.MaxInt},
		{api.Policy{Last: 10, Gap: -500}, 0},
		{api.Policy{Last: -1, Retry: math.MinInt, Reset: math.MinInt}, 0},
	} {
		if got := Eligible(config, c.p); got != c.want {
			t.Errorf("%d: Eligible(%+v) = %d, not %d", i, c.p, got, c.want)
		}
	}
	if Eligible(api.Config{}, api.Policy{Last: -1}) != api.Never {
		t.Error("without Cap nothing may fly")
	}
}

func TestSend(t *testing.T) {
	p := api.Policy{Last: 5, Gap: 100, Exp: 2, Fails: 3, State: api.Opened, Till: 800, Retry: 7, Reset: 8, Known: 9, Rules: api.Robots{Delay: 4}}
	want := p
	want.Last, want.Flying = 799, 1
	same(t, "Send while the breaker is open", Send(config, p, 799), want)
	want.Last, want.State = 800, api.Half
	same(t, "Send behind", Send(config, p, 800), want)
	same(t, "Send at first", Send(config, New(1, 2), 0), api.Policy{Last: 0, Gap: 1, Retry: 2, Flying: 1})
}

func TestAnswer(t *testing.T) {
	p := api.Policy{Last: 5, Gap: 9000, Exp: 4, Fails: 2, State: api.Half, Till: 800, Retry: 700, Reset: 800, Flying: 2, Known: 9, Rules: api.Robots{Delay: 400}}
	for _, class := range []int{api.Good, api.Gone, 0, 9} {
		want := p
		want.Gap, want.Exp, want.Fails, want.State, want.Till, want.Flying = 400, 0, 0, api.Closed, 0, 1
		same(t, "a good answer", Answer(config, p, api.Feedback{Class: class}, 1000, 500), want)
		want.Retry = 701
		same(t, "a good answer with Retry", Answer(config, p, api.Feedback{Class: class, Retry: 701, Reset: 799}, 1000, 500), want)
		want.Retry, want.Reset = 700, 801
		same(t, "a good answer with Reset", Answer(config, p, api.Feedback{Class: class, Retry: 699, Reset: 801}, 1000, 500), want)
	}
	for _, class := range []int{api.Slow, api.Bad} {
		want := p
		want.Gap, want.Exp, want.Fails, want.State, want.Till, want.Flying, want.Retry = 3750, 5, 3, api.Opened, 1700, 1, 2000
		same(t, "a bad answer", Answer(config, p, api.Feedback{Class: class, Retry: 2000}, 1000, 500), want)
	}
}

func TestFailures(t *testing.T) {
	p := New(100, 0)
	p.Flying = 9
	for i, want := range []struct{ gap, exp, fails, state, till int }{
		{500, 1, 1, api.Closed, 0}, {1000, 2, 2, api.Closed, 0}, {2000, 3, 3, api.Opened, 1002 + 700}, {2500, 4, 4, api.Opened, 1003 + 700}, {2500, 5, 5, api.Opened, 1004 + 700},
	} {
		next := Lost(config, p, 1000+i, 0)
		same(t, "Answer and Lost", Answer(config, p, api.Feedback{Class: api.Bad}, 1000+i, 0), next)
		p = next
		same(t, "Lost", p, api.Policy{Last: -1, Gap: want.gap, Exp: want.exp, Fails: want.fails, State: want.state, Till: want.till, Flying: 8 - i})
	}
	high := Lost(config, New(100, 0), 1000, 1000)
	if high.Gap != 1000 {
		t.Error("the draw counts", high.Gap)
	}
	slow := New(100, 0)
	slow.Rules.Delay = 90000
	if got := Lost(config, slow, 0, 500); got.Gap != 90000 {
		t.Error("the gap is at least the delay", got.Gap)
	}
	patient := config
	patient.Floor = 80000
	if got := Lost(patient, New(100, 0), 0, 500); got.Gap != 80000 {
		t.Error("the gap is at least the floor", got.Gap)
	}
}

func TestFlyingIsNotNegative(t *testing.T) {
	for flying, want := range map[int]int{0: 0, 1: 0, 2: 1, -3: 0, math.MinInt: 0, math.MaxInt: math.MaxInt - 1} {
		p := api.Policy{Flying: flying}
		if got := Lost(config, p, 0, 0).Flying; got != want {
			t.Errorf("Lost: %d from %d", got, flying)
		}
		if got := Answer(config, p, api.Feedback{Class: api.Good}, 0, 0).Flying; got != want {
			t.Errorf("Answer: %d from %d", got, flying)
		}
	}
}

func TestMinimumGap(t *testing.T) {
	for _, c := range []struct{ floor, delay, want int }{{100, 50, 100}, {100, 150, 150}, {-1, -2, 0}, {0, 7, 7}, {math.MinInt, math.MinInt, 0}, {5, math.MaxInt, math.MaxInt}} {
		got := Answer(api.Config{Floor: c.floor}, api.Policy{Gap: 999, Rules: api.Robots{Delay: c.delay}}, api.Feedback{Class: api.Good}, 0, 0)
		if got.Gap != c.want {
			t.Errorf("floor %d and delay %d: gap %d", c.floor, c.delay, got.Gap)
		}
	}
}

func TestLearnAndKnows(t *testing.T) {
	p := api.Policy{Last: 5, Gap: 300, Exp: 1, Fails: 2, Flying: 1, Retry: 3, Known: 4, Rules: api.Robots{All: true, Delay: 9999}}
	rules := api.Robots{Rules: []api.Rule{{Allow: true, Pattern: "/"}}, Delay: 250}
	want := p
	want.Rules, want.Known = rules, 61000
	got := Learn(config, p, rules, 1000)
	same(t, "Learn", got, want)
	rules.Delay = 301
	if got := Learn(config, p, rules, 1000); got.Gap != 301 {
		t.Error("the gap is raised to the delay", got.Gap)
	}
	if got := Learn(config, api.Policy{Gap: 5}, api.Robots{}, 1000); got.Gap != 100 {
		t.Error("the gap is raised to the floor", got.Gap)
	}
	if !Knows(got, 60999) || Knows(got, 61000) || Knows(api.Policy{}, 0) || !Knows(api.Policy{}, -1) || Knows(api.Policy{Known: math.MaxInt}, math.MaxInt) {
		t.Error("Knows")
	}
	if got := Learn(api.Config{Keep: math.MaxInt}, p, rules, math.MaxInt); got.Known != api.MaxInt {
		t.Error("Known is clamped", got.Known)
	}
}
