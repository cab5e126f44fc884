package sched

import (
	"math"
	"reflect"
	"slices"
	"strconv"
	"strings"
	"testing"

	"decorum/api"
)

func config() api.Config {
	return api.Config{Hosts: 4, PerHost: 3, Memory: 2, Segs: 3, Floor: 100, Cap: 2, Base: 1000, Most: 8000, Break: 2, Open: 5000, Rate: 1000, Burst: 20, Keep: 1 << 30, Agent: "FooBot/1.0"}
}

// run is a scheduler under test.
type run struct {
	t *testing.T
	s *Sched
}

func start(t *testing.T, c api.Config) run {
	t.Helper()
	s, e := New(c)
	if e != api.OK {
		t.Fatal("New", e)
	}
	return run{t, s}
}

func (r run) do(x api.Step, want api.Errno) api.Event {
	r.t.Helper()
	event, e := r.s.Do(x)
	if e != want {
		r.t.Errorf("%+v: error %d, not %d", x, e, want)
	}
	return event
}

func (r run) silent(x api.Step, want api.Errno) {
	r.t.Helper()
	if event := r.do(x, want); event != (api.Event{}) {
		r.t.Errorf("%+v: event %+v", x, event)
	}
}

func (r run) add(text string, prio, until int) api.Req {
	r.t.Helper()
	event := r.do(api.Step{Kind: api.StepAdd, A: prio, B: until, Text: text}, api.OK)
	if event.Kind != api.Nothing || event.At != r.s.Now() || event.Req.Prio != prio || event.Req.Until != until {
		r.t.Errorf("add %s: %+v", text, event)
	}
	return event.Req
}

func (r run) refused(text string, want api.Errno) {
	r.t.Helper()
	r.silent(api.Step{Kind: api.StepAdd, Text: text}, want)
}

func (r run) clock(at int) {
	r.t.Helper()
	r.silent(api.Step{Kind: api.StepClock, A: at}, api.OK)
}

func (r run) poll(kind int, want api.Req) {
	r.t.Helper()
	event := r.do(api.Step{Kind: api.StepPoll}, api.OK)
	if event != (api.Event{Kind: kind, At: r.s.Now(), Req: want}) {
		r.t.Errorf("poll: %+v, not %d %+v", event, kind, want)
	}
}

func (r run) idle() {
	r.t.Helper()
	r.poll(api.Nothing, api.Req{})
}

func (r run) answer(id, status int, text string, headers ...string) {
	r.t.Helper()
	x := api.Step{Kind: api.StepAnswer, A: id, B: status, Text: text}
	for i := 0; i < len(headers); i += 2 {
		x.Headers = append(x.Headers, api.Header{Name: headers[i], Value: headers[i+1]})
	}
	r.silent(x, api.OK)
}

// learn lets a host be asked for its rules, and answer.
func (r run) learn(host int, key, text string) {
	r.t.Helper()
	r.poll(api.Asked, api.Req{ID: -1 - host, Host: key, Path: "/robots.txt"})
	r.answer(-1-host, 200, text)
}

func (r run) pending(want ...int) {
	r.t.Helper()
	if got := ids(r.s.Pending()); !slices.Equal(got, want) {
		r.t.Errorf("pending %v, not %v", got, want)
	}
}

func (r run) flying(want ...int) {
	r.t.Helper()
	if got := ids(r.s.Flying()); !slices.Equal(got, want) {
		r.t.Errorf("in flight %v, not %v", got, want)
	}
}

func ids(list []api.Req) []int {
	var n []int
	for _, r := range list {
		n = append(n, r.ID)
	}
	return n
}

func TestCheck(t *testing.T) {
	if Check(config()) != api.OK {
		t.Error("an ordinary configuration")
	}
	type limit struct {
		name        string
		field       func(c *api.Config) *int
		least, most int
	}
	for _, l := range []limit{
		{"Floor", func(c *api.Config) *int { return &c.Floor }, 0, api.MaxMs},
		{"Base", func(c *api.Config) *int { return &c.Base }, 0, api.MaxMs},
		{"Most", func(c *api.Config) *int { return &c.Most }, 0, api.MaxMs},
		{"Open", func(c *api.Config) *int { return &c.Open }, 0, api.MaxMs},
		{"Keep", func(c *api.Config) *int { return &c.Keep }, 0, api.MaxMs},
		{"Hosts", func(c *api.Config) *int { return &c.Hosts }, 1, 64},
		{"PerHost", func(c *api.Config) *int { return &c.PerHost }, 1, 256},
		{"Memory", func(c *api.Config) *int { return &c.Memory }, 1, 256},
		{"Cap", func(c *api.Config) *int { return &c.Cap }, 1, 256},
		{"Break", func(c *api.Config) *int { return &c.Break }, 1, 256},
		{"Segs", func(c *api.Config) *int { return &c.Segs }, 1, 7},
		{"Rate", func(c *api.Config) *int { return &c.Rate }, 1, 1 << 20},
		{"Burst", func(c *api.Config) *int { return &c.Burst }, 1, 1 << 20},
	} {
		for value, want := range map[int]api.Errno{l.least: api.OK, l.most: api.OK, l.least - 1: api.ErrArg, l.most + 1: api.ErrArg, math.MinInt: api.ErrArg, math.MaxInt: api.ErrArg} {
			c := config()
			*l.field(&c) = value
			if got := Check(c); got != want {
				t.Errorf("%s %d: %d", l.name, value, got)
			}
			if s, e := New(c); e != want || (s == nil) != (want != api.OK) {
				t.Errorf("New with %s %d: %v %d", l.name, value, s, e)
			}
		}
	}
	for size, want := range map[int]api.Errno{0: api.OK, api.MaxName: api.OK, api.MaxName + 1: api.ErrArg} {
		c := config()
		c.Agent = strings.Repeat("a", size)
		if got := Check(c); got != want {
			t.Errorf("Agent of %d bytes: %d", size, got)
		}
	}
}

func TestNew(t *testing.T) {
	r := start(t, config())
	if r.s.Now() != 0 || r.s.Level() != 20000 || r.s.Memory() != 0 || r.s.Segs() != 0 {
		t.Error(r.s.Now(), r.s.Level(), r.s.Memory(), r.s.Segs())
	}
	r.pending()
	r.flying()
	r.idle()
	if p, ok := r.s.Policy("http://a"); ok || !reflect.DeepEqual(p, api.Policy{}) {
		t.Error("the policy of a host that is not known", p)
	}
}

func TestAdd(t *testing.T) {
	r := start(t, config())
	r.clock(7)
	if got, want := r.add("HTTP://A:80/x/../y?q#z", 3, 9), (api.Req{ID: 1, Host: "http://a", Path: "/y?q", Prio: 3, Until: 9}); got != want {
		t.Errorf("%+v, not %+v", got, want)
	}
	if p, ok := r.s.Policy("http://a"); !ok || !reflect.DeepEqual(p, api.Policy{Last: -1, Gap: 100}) {
		t.Errorf("the policy of a new host: %+v", p)
	}
	if got := r.add("https://a:80", 0, api.MaxMs); got.Host != "https://a:80" || got.Path != "/" || got.ID != 2 {
		t.Errorf("%+v", got)
	}
	r.pending(1, 2)
	if r.s.Segs() != 1 || r.s.Memory() != 2 {
		t.Error(r.s.Segs(), r.s.Memory())
	}
	r.add("http://a/2", api.MaxPrio, 0)
	r.add("http://a/3", 0, 0)
	if r.s.Memory() != 2 {
		t.Error("too much in memory", r.s.Memory())
	}
	r.pending(1, 2, 3, 4)
}

func TestAddErrorsInOrder(t *testing.T) {
	c := config()
	c.Hosts, c.PerHost = 2, 2
	r := start(t, c)
	for _, x := range []struct {
		step api.Step
		want api.Errno
	}{
		{api.Step{Text: strings.Repeat("x", api.MaxURL+1), A: -1}, api.ErrOver},
		{api.Step{Text: "a", A: -1}, api.ErrForm},
		{api.Step{Text: "http://a_", B: -1}, api.ErrHost},
		{api.Step{Text: "http://a/%", B: -1}, api.ErrForm},
		{api.Step{Text: "http://a", A: -1}, api.ErrArg},
		{api.Step{Text: "http://a", A: 8}, api.ErrArg},
		{api.Step{Text: "http://a", B: -1}, api.ErrArg},
		{api.Step{Text: "http://a", B: api.MaxMs + 1}, api.ErrArg},
		{api.Step{Text: "http://a", A: math.MinInt, B: math.MaxInt}, api.ErrArg},
	} {
		x.step.Kind = api.StepAdd
		r.silent(x.step, x.want)
	}
	if _, ok := r.s.Policy("http://a"); ok || len(r.s.Pending()) != 0 {
		t.Error("refused calls change something")
	}
	r.add("http://a/1", 0, 0)
	r.refused("http://a/1", api.ErrDup)
	r.refused("http://a/%31", api.ErrDup)
	r.add("http://a/2", 0, 0)
	r.refused("http://a/1", api.ErrDup)
	r.refused("http://a/3", api.ErrFull)
	r.add("http://b/1", 0, 0)
	r.refused("http://c/1", api.ErrFull)
	if _, ok := r.s.Policy("http://c"); ok {
		t.Error("a host too many")
	}
	r.add("http://b/3", 0, 0)
	r.silent(api.Step{Kind: api.StepAdd, Text: "http://c/1", A: 9}, api.ErrArg)
	r.pending(1, 2, 3, 4)
}

func TestAddWithFaults(t *testing.T) {
	r := start(t, config())
	r.silent(api.Step{Kind: api.StepFault, A: 0, B: 1}, api.OK)
	r.refused("http://a/1", api.ErrDisk)
	if _, ok := r.s.Policy("http://a"); ok || len(r.s.Pending()) != 0 {
		t.Error("a refused call changes something")
	}
	r.idle()
	if got := r.add("http://a/1", 0, 0); got.ID != 2 {
		t.Error("the ID behind a failed Put", got.ID)
	}
	r.silent(api.Step{Kind: api.StepFault, A: 1, B: 1}, api.OK)
	r.refused("http://a/2", api.ErrDisk)
	r.pending(2)
}

func TestLogIsFull(t *testing.T) {
	c := config()
	c.Segs, c.PerHost = 1, 256
	r := start(t, c)
	n := 0
	for {
		_, e := r.s.Do(api.Step{Kind: api.StepAdd, Text: "http://a/" + strconv.Itoa(n)})
		if e == api.ErrFull {
			break
		}
		n++
	}
	if len(r.s.Pending()) != n || n < 50 || n > 60 || r.s.Segs() != 1 {
		t.Error(len(r.s.Pending()), n, r.s.Segs())
	}
	r.silent(api.Step{Kind: api.StepCancel, A: 5}, api.OK)
	r.silent(api.Step{Kind: api.StepCancel, A: 6}, api.OK)
	r.add("http://a/again", 0, 0)
}

func TestClock(t *testing.T) {
	c := config()
	c.Burst = 2
	r := start(t, c)
	r.add("http://a/", 0, 0)
	r.add("http://b/", 0, 0)
	r.poll(api.Asked, api.Req{ID: -1, Host: "http://a", Path: "/robots.txt"})
	r.poll(api.Asked, api.Req{ID: -2, Host: "http://b", Path: "/robots.txt"})
	for _, x := range []struct{ raw, now, level int }{{0, 0, 0}, {-5, 0, 0}, {1, 1, 1000}, {1, 1, 1000}, {0, 1, 1000}, {50, 50, 2000}, {math.MaxInt, api.MaxMs, 2000}, {math.MinInt, api.MaxMs, 2000}} {
		r.clock(x.raw)
		if r.s.Now() != x.now || r.s.Level() != x.level {
			t.Errorf("clock %d: %d, level %d", x.raw, r.s.Now(), r.s.Level())
		}
	}
}

func TestPollInOrder(t *testing.T) {
	r := start(t, config())
	low := r.add("http://a/low", 5, 0)
	first := r.add("http://a/first", 1, 0)
	second := r.add("http://a/second", 1, 0)
	r.poll(api.Asked, api.Req{ID: -1, Host: "http://a", Path: "/robots.txt"})
	r.flying(-1)
	r.idle()
	r.clock(500)
	r.idle()
	r.answer(-1, 200, "")
	r.poll(api.Sent, first)
	if r.s.Level() != 20000-1000 {
		t.Error("level", r.s.Level())
	}
	r.idle()
	r.clock(599)
	r.idle()
	r.clock(600)
	r.poll(api.Sent, second)
	r.clock(700)
	r.idle() // as many as Cap are in flight
	r.flying(first.ID, second.ID)
	r.pending(low.ID, first.ID, second.ID)
	r.answer(second.ID, 200, "")
	r.pending(low.ID, first.ID)
	r.poll(api.Sent, low)
	r.flying(low.ID, first.ID)
	r.silent(api.Step{Kind: api.StepAnswer, A: second.ID, B: 200}, api.ErrNone)
	r.answer(first.ID, 404, "")
	r.answer(low.ID, 500, "")
	r.pending()
	r.flying()
	r.clock(1 << 20)
	r.idle()
}

func TestOldestEligibleHostFirst(t *testing.T) {
	r := start(t, config())
	for _, key := range []string{"http://a", "http://b", "http://c"} {
		r.add(key+"/1", 0, 0)
		r.add(key+"/2", 0, 0)
	}
	r.learn(0, "http://a", "")
	r.clock(10)
	r.learn(1, "http://b", "")
	r.clock(20)
	r.learn(2, "http://c", "crawl-delay: 1") // without an agent
	r.clock(1000)
	r.poll(api.Sent, api.Req{ID: 1, Host: "http://a", Path: "/1"})
	r.poll(api.Sent, api.Req{ID: 3, Host: "http://b", Path: "/1"})
	r.poll(api.Sent, api.Req{ID: 5, Host: "http://c", Path: "/1"})
	r.idle()
	r.clock(2000)
	// All have the same key now, so that the smallest number decides.
	r.poll(api.Sent, api.Req{ID: 2, Host: "http://a", Path: "/2"})
	r.poll(api.Sent, api.Req{ID: 4, Host: "http://b", Path: "/2"})
	r.poll(api.Sent, api.Req{ID: 6, Host: "http://c", Path: "/2"})
}

func TestRules(t *testing.T) {
	r := start(t, config())
	barred := r.add("http://a/private/x", 0, 0)
	query := r.add("http://a/open?private", 1, 0)
	robots := r.add("http://a/robots.txt", 2, 0)
	r.learn(0, "http://a", "user-agent: foobot\ndisallow: /\nallow: /open\ncrawl-delay: 2")
	if p, _ := r.s.Policy("http://a"); p.Gap != 2000 || p.Known != 1<<30 || len(p.Rules.Rules) != 2 || p.Rules.Delay != 2000 {
		t.Errorf("policy %+v", p)
	}
	r.clock(1999)
	r.idle()
	r.clock(2000)
	level := r.s.Level()
	r.poll(api.Barred, barred)
	if r.s.Level() != level {
		t.Error("a barred request takes a token")
	}
	r.pending(query.ID, robots.ID)
	r.poll(api.Sent, query)
	r.idle()
	r.clock(4000)
	r.poll(api.Sent, robots)
	r.pending(query.ID, robots.ID)
}

func TestRulesByStatus(t *testing.T) {
	for _, x := range []struct {
		status int
		kind   int
	}{{200, api.Barred}, {204, api.Barred}, {404, api.Sent}, {429, api.Barred}, {500, api.Barred}, {301, api.Barred}} {
		r := start(t, config())
		want := r.add("http://a/x", 0, 0)
		r.poll(api.Asked, api.Req{ID: -1, Host: "http://a", Path: "/robots.txt"})
		r.answer(-1, x.status, "user-agent: *\ndisallow: /x")
		r.clock(100000)
		r.poll(x.kind, want)
	}
}

func TestRulesExpire(t *testing.T) {
	c := config()
	c.Keep = 1000
	r := start(t, c)
	one := r.add("http://a/1", 0, 0)
	two := r.add("http://a/2", 0, 0)
	r.learn(0, "http://a", "")
	r.clock(999)
	r.poll(api.Sent, one)
	r.clock(1100)
	r.poll(api.Asked, api.Req{ID: -1, Host: "http://a", Path: "/robots.txt"})
	r.flying(-1, one.ID)
	r.clock(5000)
	r.idle()
	r.silent(api.Step{Kind: api.StepLost, A: -1}, api.OK)
	r.flying(one.ID)
	if p, _ := r.s.Policy("http://a"); p.Gap != 500 || p.Flying != 1 {
		t.Errorf("policy %+v", p)
	}
	r.poll(api.Asked, api.Req{ID: -1, Host: "http://a", Path: "/robots.txt"})
	r.answer(-1, 200, "user-agent: *\ndisallow: /2")
	r.answer(one.ID, 200, "")
	r.clock(5100)
	r.poll(api.Barred, two)
	r.pending()
}

func TestLate(t *testing.T) {
	r := start(t, config())
	late := r.add("http://a/late", 0, 99)
	just := r.add("http://a/just", 1, 100)
	r.learn(0, "http://a", "")
	r.clock(100)
	r.poll(api.Late, late)
	r.pending(just.ID)
	if r.s.Level() != 20000 {
		t.Error("a late request takes a token")
	}
	r.poll(api.Sent, just)
	// The least time that is not 0.
	r = start(t, config())
	late = r.add("http://a/late", 0, 1)
	r.learn(0, "http://a", "")
	r.clock(100)
	r.poll(api.Late, late)
	// A late request isn't looked at for the rules.
	r = start(t, config())
	late = r.add("http://a/late", 0, 99)
	r.learn(0, "http://a", "user-agent: *\ndisallow: /")
	r.clock(100)
	r.poll(api.Late, late)
	r.idle()
}

func TestLateAndBarredWithFaults(t *testing.T) {
	r := start(t, config())
	late := r.add("http://a/late", 0, 99)
	barred := r.add("http://a/x", 1, 0)
	r.learn(0, "http://a", "user-agent: *\ndisallow: /")
	r.clock(100)
	r.silent(api.Step{Kind: api.StepFault, A: 0, B: 2}, api.OK)
	if event := r.do(api.Step{Kind: api.StepPoll}, api.ErrDisk); event != (api.Event{Kind: api.Late, At: 100, Req: late}) {
		t.Errorf("%+v", event)
	}
	if event := r.do(api.Step{Kind: api.StepPoll}, api.ErrDisk); event != (api.Event{Kind: api.Barred, At: 100, Req: barred}) {
		t.Errorf("%+v", event)
	}
	r.idle()
	r.pending()
}

func TestAnswerErrors(t *testing.T) {
	r := start(t, config())
	one := r.add("http://a/1", 0, 0)
	for _, id := range []int{one.ID, -1, 0, 99, math.MinInt, math.MaxInt} {
		r.silent(api.Step{Kind: api.StepAnswer, A: id, B: 200}, api.ErrNone)
		r.silent(api.Step{Kind: api.StepLost, A: id}, api.ErrNone)
	}
	r.learn(0, "http://a", "")
	r.clock(100)
	r.poll(api.Sent, one)
	r.silent(api.Step{Kind: api.StepFault, A: 0, B: 1}, api.OK)
	r.silent(api.Step{Kind: api.StepAnswer, A: one.ID, B: 200}, api.ErrDisk)
	r.flying()
	r.pending()
	two := r.add("http://a/2", 0, 0)
	r.clock(200)
	r.poll(api.Sent, two)
	// Done fails first, and Wait too.
	r.silent(api.Step{Kind: api.StepFault, A: 0, B: 2}, api.OK)
	r.silent(api.Step{Kind: api.StepAnswer, A: two.ID, B: 200, Headers: []api.Header{{Name: "Retry-After", Value: "1"}}}, api.ErrDisk)
	three := r.add("http://a/3", 0, 0)
	r.clock(1199)
	r.idle()
	r.clock(1200)
	r.poll(api.Sent, three)
	// Only Wait fails.
	r.silent(api.Step{Kind: api.StepFault, A: 2, B: 1}, api.OK)
	r.silent(api.Step{Kind: api.StepAnswer, A: three.ID, B: 200, Headers: []api.Header{{Name: "Retry-After", Value: "1"}}}, api.ErrDisk)
	r.pending()
}

func TestRetryAndReset(t *testing.T) {
	r := start(t, config())
	one := r.add("http://a/1", 0, 0)
	two := r.add("http://a/2", 0, 0)
	r.learn(0, "http://a", "")
	r.clock(100)
	r.poll(api.Sent, one)
	r.answer(one.ID, 200, "", "Retry-After", "3", "RateLimit", "remaining=0, reset=5")
	if p, _ := r.s.Policy("http://a"); p.Retry != 3100 || p.Reset != 5100 {
		t.Errorf("policy %+v", p)
	}
	r.clock(5099)
	r.idle()
	r.clock(5100)
	r.poll(api.Sent, two)
	// What a host requests lasts; what it has left does not.
	r.answer(two.ID, 200, "", "Retry-After", "2", "RateLimit", "remaining=0, reset=9")
	r.add("http://a/3", 0, 0)
	r.silent(api.Step{Kind: api.StepCrash}, api.OK)
	if p, _ := r.s.Policy("http://a"); p.Retry != 7100 || p.Reset != 0 {
		t.Errorf("policy after a crash: %+v", p)
	}
}

func TestLostAndBreaker(t *testing.T) {
	r := start(t, config())
	one := r.add("http://a/1", 0, 0)
	two := r.add("http://a/2", 0, 0)
	r.learn(0, "http://a", "")
	r.clock(100)
	r.poll(api.Sent, one)
	r.silent(api.Step{Kind: api.StepLost, A: one.ID, C: 1000}, api.OK)
	r.flying()
	r.pending(one.ID, two.ID)
	r.clock(1099)
	r.idle()
	r.clock(1100)
	r.poll(api.Sent, one)
	r.silent(api.Step{Kind: api.StepLost, A: one.ID, C: 0}, api.OK)
	if p, _ := r.s.Policy("http://a"); p.State != api.Opened || p.Till != 6100 || p.Gap != 1000 || p.Exp != 2 || p.Fails != 2 {
		t.Errorf("policy %+v", p)
	}
	r.clock(6099)
	r.idle()
	r.clock(6100)
	r.poll(api.Sent, one)
	if p, _ := r.s.Policy("http://a"); p.State != api.Half {
		t.Errorf("policy %+v", p)
	}
	r.clock(9000)
	r.idle() // one at a time
	r.answer(one.ID, 200, "")
	if p, _ := r.s.Policy("http://a"); p.State != api.Closed || p.Gap != 100 {
		t.Errorf("policy %+v", p)
	}
	r.poll(api.Sent, two)
}

func TestLostWithoutRoom(t *testing.T) {
	c := config()
	c.PerHost = 1
	r := start(t, c)
	one := r.add("http://a/1", 0, 0)
	r.learn(0, "http://a", "")
	r.clock(100)
	r.poll(api.Sent, one)
	r.refused("http://a/1", api.ErrDup) // it is in flight
	r.add("http://a/2", 0, 0)
	r.silent(api.Step{Kind: api.StepLost, A: one.ID}, api.OK)
	r.pending(1, 2)
	r.refused("http://a/3", api.ErrFull)
	r.refused("http://a/1", api.ErrDup)
}

func TestQueryInFlightIsARequest(t *testing.T) {
	r := start(t, config())
	r.add("http://a/1", 0, 0)
	r.add("http://b/1", 0, 0)
	r.poll(api.Asked, api.Req{ID: -1, Host: "http://a", Path: "/robots.txt"})
	r.refused("http://a/robots.txt", api.ErrDup)
	r.add("http://b/robots.txt", 0, 0)
	r.answer(-1, 200, "")
	r.add("http://a/robots.txt", 0, 0)
}

func TestCancel(t *testing.T) {
	r := start(t, config())
	one := r.add("http://a/1", 0, 0)
	two := r.add("http://a/2", 0, 0)
	three := r.add("http://b/1", 0, 0)
	r.silent(api.Step{Kind: api.StepCancel, A: three.ID}, api.OK)
	r.silent(api.Step{Kind: api.StepCancel, A: three.ID}, api.ErrNone)
	r.silent(api.Step{Kind: api.StepCancel, A: 0}, api.ErrNone)
	r.learn(0, "http://a", "")
	r.silent(api.Step{Kind: api.StepCancel, A: -1}, api.ErrNone)
	r.clock(100)
	r.poll(api.Sent, one)
	r.silent(api.Step{Kind: api.StepCancel, A: one.ID}, api.ErrNone)
	r.silent(api.Step{Kind: api.StepFault, A: 0, B: 1}, api.OK)
	r.silent(api.Step{Kind: api.StepCancel, A: two.ID}, api.ErrDisk)
	r.pending(one.ID)
	r.clock(1000)
	r.idle()
	r.add("http://a/2", 0, 0)
}

func TestCrash(t *testing.T) {
	r := start(t, config())
	r.add("http://a/1", 0, 0)
	two := r.add("http://b/2", 4, 77777)
	r.add("http://b/3", 0, 0)
	r.learn(0, "http://a", "")
	r.learn(1, "http://b", "")
	r.clock(100)
	r.poll(api.Sent, api.Req{ID: 1, Host: "http://a", Path: "/1"})
	r.poll(api.Sent, api.Req{ID: 3, Host: "http://b", Path: "/3"})
	r.answer(1, 200, "")
	r.silent(api.Step{Kind: api.StepFault, A: 0, B: 100}, api.OK)
	r.silent(api.Step{Kind: api.StepCrash, A: -1}, api.OK)
	if r.s.Now() != 100 || r.s.Level() != 0 {
		t.Error(r.s.Now(), r.s.Level())
	}
	r.flying()
	r.pending(two.ID, 3)
	if _, ok := r.s.Policy("http://a"); ok {
		t.Error("a host without requests is known")
	}
	if p, ok := r.s.Policy("http://b"); !ok || !reflect.DeepEqual(p, api.Policy{Last: -1, Gap: 100, Retry: 200}) {
		t.Errorf("policy %+v", p)
	}
	r.silent(api.Step{Kind: api.StepAnswer, A: 3, B: 200}, api.ErrNone)
	four := r.add("http://a/4", 0, 0)
	if four.ID != 4 {
		t.Error("the next ID", four.ID)
	}
	if p, _ := r.s.Policy("http://a"); p.Retry != 200 {
		t.Errorf("a new host is left alone, too: %+v", p)
	}
	r.idle()
	r.clock(199)
	r.idle()
	r.clock(200)
	r.learn(0, "http://b", "")
	r.learn(1, "http://a", "")
	r.clock(300)
	r.poll(api.Sent, api.Req{ID: 3, Host: "http://b", Path: "/3"})
	r.poll(api.Sent, four)
}

func TestCrashKeepsWhatHostsRequest(t *testing.T) {
	r := start(t, config())
	r.add("http://a/1", 0, 0)
	r.add("http://a/2", 0, 0)
	r.poll(api.Asked, api.Req{ID: -1, Host: "http://a", Path: "/robots.txt"})
	r.answer(-1, 503, "", "Retry-After", "60")
	r.silent(api.Step{Kind: api.StepCrash}, api.OK)
	r.clock(59999)
	r.idle()
	r.clock(60000)
	r.poll(api.Asked, api.Req{ID: -1, Host: "http://a", Path: "/robots.txt"})
	r.answer(-1, 200, "")
	// A time that is over is not written.
	segs := r.s.Segs()
	r.clock(60100)
	r.poll(api.Sent, api.Req{ID: 1, Host: "http://a", Path: "/1"})
	r.silent(api.Step{Kind: api.StepFault, A: 2, B: 1}, api.OK)
	r.answer(1, 200, "", "Retry-After", "Thu, 01 Jan 1970 00:01:00 GMT")
	r.silent(api.Step{Kind: api.StepFault}, api.OK)
	r.clock(60200)
	r.poll(api.Sent, api.Req{ID: 2, Host: "http://a", Path: "/2"})
	r.silent(api.Step{Kind: api.StepFault, A: 2, B: 1}, api.OK)
	r.answer(2, 200, "", "Retry-After", "0")
	if r.s.Segs() != segs {
		t.Error("segments", r.s.Segs())
	}
}

func TestCrashWithMoreHostsThanMayBeAdded(t *testing.T) {
	c := config()
	c.Hosts = 1
	r := start(t, c)
	r.silent(api.Step{Kind: api.StepFault, A: 1, B: 1}, api.OK)
	r.refused("http://a/1", api.ErrDisk)
	r.add("http://b/1", 0, 0)
	r.silent(api.Step{Kind: api.StepCrash}, api.OK)
	r.pending(1, 2) // the first one may be there again
	r.refused("http://c/1", api.ErrFull)
	r.clock(5000)
	r.learn(0, "http://a", "")
	r.learn(1, "http://b", "")
}

func TestUnknownSteps(t *testing.T) {
	r := start(t, config())
	for _, kind := range []int{0, -1, 9, math.MinInt, math.MaxInt} {
		r.silent(api.Step{Kind: kind, A: 1, Text: "http://a"}, api.ErrArg)
	}
}

func TestNil(t *testing.T) {
	var s *Sched
	if event, e := s.Do(api.Step{Kind: api.StepPoll}); event != (api.Event{}) || e != api.ErrArg {
		t.Error("Do", event, e)
	}
	if p, ok := s.Policy(""); ok || !reflect.DeepEqual(p, api.Policy{}) {
		t.Error("Policy", p)
	}
	if s.Now() != 0 || s.Pending() != nil || s.Flying() != nil || s.Level() != 0 || s.Memory() != 0 || s.Segs() != 0 {
		t.Error("a nil Sched")
	}
	var zero Sched
	for kind := range 10 {
		zero.Do(api.Step{Kind: kind, A: 1, B: 1, Text: "http://a/"})
	}
	if zero.Segs() != 0 || zero.Pending() != nil || zero.Memory() != 0 {
		t.Error("a zero Sched")
	}
}

func TestPolicyIsACopy(t *testing.T) {
	r := start(t, config())
	r.add("http://a/x", 0, 0)
	r.learn(0, "http://a", "user-agent: *\ndisallow: /")
	p, _ := r.s.Policy("http://a")
	p.Rules.Rules[0].Allow = true
	flying := r.s.Flying()
	_ = append(flying, api.Req{})
	r.clock(100)
	r.poll(api.Barred, api.Req{ID: 1, Host: "http://a", Path: "/x"})
}
