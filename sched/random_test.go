package sched

import (
	"cmp"
	"math/rand"
	"slices"
	"strconv"
	"testing"

	"decorum/api"
	"decorum/policy"
	"decorum/robots"
)

// book is what a script of random steps has come to so far, as its author would note it.
type book struct {
	t       *testing.T
	c       api.Config
	s       *Sched
	sure    map[int]api.Req // accepted, and not done
	maybe   map[int]api.Req // refused or done with an error: they may be there after a crash
	waiting map[int]api.Req
	flying  map[int]api.Req
	numbers map[string]int
	last    map[string]int // when something was sent to a host
	asked   map[string]int // until when a host has requested to be left alone, and that lasts
	sent    []int          // when anything was sent
}

func newBook(t *testing.T, c api.Config) *book {
	s, e := New(c)
	if e != api.OK {
		t.Fatal("New", e)
	}
	return &book{
		t: t, c: c, s: s,
		sure: map[int]api.Req{}, maybe: map[int]api.Req{}, waiting: map[int]api.Req{}, flying: map[int]api.Req{},
		numbers: map[string]int{}, last: map[string]int{}, asked: map[string]int{},
	}
}

func (b *book) meet(host string) {
	if _, ok := b.numbers[host]; !ok {
		b.numbers[host] = len(b.numbers)
	}
}

func (b *book) done(id int, e api.Errno) {
	r := b.sure[id]
	delete(b.sure, id)
	if e != api.OK {
		b.maybe[id] = r
	}
}

func (b *book) add(text string, prio, until int) {
	next := b.s.log.Next()
	event, e := b.s.Do(api.Step{Kind: api.StepAdd, A: prio, B: until, Text: text})
	if e == api.OK {
		b.sure[event.Req.ID] = event.Req
		b.waiting[event.Req.ID] = event.Req
		b.meet(event.Req.Host)
		return
	}
	if e == api.ErrDisk || e == api.ErrFull {
		b.maybe[next] = api.Req{}
	}
}

// expected works out what a poll has to come to.
func (b *book) expected() api.Event {
	nothing := api.Event{At: b.s.Now()}
	if b.s.Level() < 1000 {
		return nothing
	}
	best, bestKey := "", api.Never
	for _, r := range b.waiting {
		p, ok := b.s.Policy(r.Host)
		if !ok {
			b.t.Fatalf("%s has no policy", r.Host)
		}
		key := policy.Eligible(b.c, p)
		if _, asking := b.flying[-1-b.numbers[r.Host]]; asking {
			key = api.Never
		}
		if key < bestKey || key == bestKey && (best == "" || b.numbers[r.Host] < b.numbers[best]) {
			best, bestKey = r.Host, key
		}
	}
	if best == "" || bestKey > b.s.Now() {
		return nothing
	}
	p, _ := b.s.Policy(best)
	if !policy.Knows(p, b.s.Now()) {
		return api.Event{Kind: api.Asked, At: b.s.Now(), Req: api.Req{ID: -1 - b.numbers[best], Host: best, Path: "/robots.txt"}}
	}
	var list []api.Req
	for _, r := range b.waiting {
		if r.Host == best {
			list = append(list, r)
		}
	}
	first := slices.MinFunc(list, func(x, y api.Req) int { return cmp.Or(cmp.Compare(x.Prio, y.Prio), cmp.Compare(x.ID, y.ID)) })
	kind := api.Sent
	if first.Until > 0 && first.Until < b.s.Now() {
		kind = api.Late
	} else if !robots.Allowed(p.Rules, first.Path) {
		kind = api.Barred
	}
	return api.Event{Kind: kind, At: b.s.Now(), Req: first}
}

func (b *book) poll() api.Event {
	want := b.expected()
	event, e := b.s.Do(api.Step{Kind: api.StepPoll})
	if event != want {
		b.t.Fatalf("poll: %+v, not %+v", event, want)
	}
	switch event.Kind {
	case api.Late, api.Barred:
		delete(b.waiting, event.Req.ID)
		b.done(event.Req.ID, e)
	case api.Sent, api.Asked:
		delete(b.waiting, event.Req.ID)
		b.flying[event.Req.ID] = event.Req
		b.transmitted(event)
	}
	if event.Kind != api.Late && event.Kind != api.Barred && e != api.OK {
		b.t.Fatalf("poll: error %d", e)
	}
	return event
}

// transmitted checks that hosts are treated politely.
func (b *book) transmitted(event api.Event) {
	host := event.Req.Host
	if last, ok := b.last[host]; ok && event.At-last < b.c.Floor {
		b.t.Fatalf("%s is contacted after %d", host, event.At-last)
	}
	if event.At < b.asked[host] {
		b.t.Fatalf("%s is contacted at %d, not at %d", host, event.At, b.asked[host])
	}
	b.last[host] = event.At
	b.sent = append(b.sent, event.At)
	for i, first := range b.sent {
		if 1000*(len(b.sent)-i) > 1000*b.c.Burst+b.c.Rate*(event.At-first) {
			b.t.Fatalf("%d in %d", len(b.sent)-i, event.At-first)
		}
	}
	n := 0
	for _, r := range b.flying {
		if r.Host == host {
			n++
		}
	}
	if n > b.c.Cap {
		b.t.Fatalf("%d in flight to %s", n, host)
	}
}

func (b *book) answer(id, status, draw, seconds int, text string) {
	x := api.Step{Kind: api.StepAnswer, A: id, B: status, C: draw, Text: text}
	if seconds > 0 {
		x.Headers = []api.Header{{Name: "Retry-After", Value: strconv.Itoa(seconds)}}
	}
	_, e := b.s.Do(x)
	r := b.flying[id]
	delete(b.flying, id)
	if id > 0 {
		b.done(id, e)
	}
	if seconds > 0 && e == api.OK {
		b.asked[r.Host] = max(b.asked[r.Host], b.s.Now()+1000*seconds)
	}
}

func (b *book) crash(keep int) {
	b.s.Do(api.Step{Kind: api.StepCrash, A: keep})
	b.waiting, b.flying, b.numbers = map[int]api.Req{}, map[int]api.Req{}, map[string]int{}
	for _, r := range b.s.Pending() {
		_, sure := b.sure[r.ID]
		_, maybe := b.maybe[r.ID]
		if !sure && !maybe {
			b.t.Fatalf("request %d was never accepted", r.ID)
		}
		if sure && b.sure[r.ID] != r {
			b.t.Fatalf("request %d is %+v", r.ID, r)
		}
		b.waiting[r.ID] = r
		b.meet(r.Host)
	}
	for id := range b.sure {
		if _, ok := b.waiting[id]; !ok {
			b.t.Fatalf("request %d is lost", id)
		}
	}
	b.sure, b.maybe = map[int]api.Req{}, map[int]api.Req{}
	for id, r := range b.waiting {
		b.sure[id] = r
	}
}

func (b *book) check() {
	if got := ids(b.s.Pending()); len(got) != len(b.sure) {
		b.t.Fatalf("pending %v, but %d are accepted and not done", got, len(b.sure))
	}
	if len(b.s.Flying()) != len(b.flying) {
		b.t.Fatalf("%d in flight, not %d", len(b.s.Flying()), len(b.flying))
	}
	if b.s.Memory() > b.c.Memory || b.s.Segs() > 2*b.c.Segs+1 {
		b.t.Fatalf("%d in memory, %d segments", b.s.Memory(), b.s.Segs())
	}
}

func TestRandomScripts(t *testing.T) {
	for seed := range int64(60) {
		r := rand.New(rand.NewSource(seed))
		c := api.Config{
			Hosts: 1 + r.Intn(5), PerHost: 1 + r.Intn(8), Memory: 1 + r.Intn(4), Segs: 1 + r.Intn(3), Floor: r.Intn(300), Cap: 1 + r.Intn(3),
			Base: r.Intn(1000), Most: r.Intn(5000), Break: 1 + r.Intn(4), Open: r.Intn(4000), Rate: 1 + r.Intn(20), Burst: 1 + r.Intn(5), Keep: []int{2000, 1 << 20}[r.Intn(2)], Agent: "foo",
		}
		b := newBook(t, c)
		texts := []string{"", "user-agent: *\ndisallow: /1", "user-agent: foo\ncrawl-delay: 0.5\nallow: /1\ndisallow: /", "user-agent: foo\ndisallow: /*5$"}
		for range 400 {
			switch kind := r.Intn(40); {
			case kind < 10:
				b.add("http://"+string(rune('a'+r.Intn(6)))+"/"+strconv.Itoa(r.Intn(30)), r.Intn(8), r.Intn(2)*r.Intn(40000))
			case kind < 16:
				b.s.Do(api.Step{Kind: api.StepClock, A: b.s.Now() + r.Intn(600) - 50})
			case kind < 26:
				b.poll()
			case kind < 35:
				if list := b.s.Flying(); len(list) > 0 {
					one := list[r.Intn(len(list))]
					if r.Intn(6) == 0 {
						b.s.Do(api.Step{Kind: api.StepLost, A: one.ID, C: r.Intn(1200)})
						delete(b.flying, one.ID)
						if one.ID > 0 {
							b.waiting[one.ID] = one
						}
					} else {
						b.answer(one.ID, []int{200, 200, 200, 404, 429, 500, 503}[r.Intn(7)], r.Intn(1000), max(0, r.Intn(12)-8), texts[r.Intn(len(texts))])
					}
				}
			case kind < 37:
				if list := b.s.Pending(); len(list) > 0 {
					id := list[r.Intn(len(list))].ID
					_, waits := b.waiting[id]
					_, e := b.s.Do(api.Step{Kind: api.StepCancel, A: id})
					if waits == (e == api.ErrNone) {
						t.Fatalf("cancel: %d", e)
					}
					if waits {
						delete(b.waiting, id)
						b.done(id, e)
					}
				}
			case kind < 39:
				b.s.Do(api.Step{Kind: api.StepFault, A: r.Intn(6), B: r.Intn(4)})
			default:
				b.crash(r.Intn(200))
			}
			b.check()
		}
		if c.Keep > 2000 {
			b.drain()
		}
	}
}

// drain checks that everything is done in the end, if rules are not forgotten before they are of use.
func (b *book) drain() {
	b.s.Do(api.Step{Kind: api.StepFault})
	for range 2000 {
		for _, r := range b.s.Flying() {
			b.answer(r.ID, 200, 0, 0, "")
		}
		if b.poll().Kind == api.Nothing {
			b.s.Do(api.Step{Kind: api.StepClock, A: b.s.Now() + 1000})
		}
		if len(b.s.Pending()) == 0 {
			return
		}
	}
	b.t.Fatalf("%d requests are never done", len(b.s.Pending()))
}
