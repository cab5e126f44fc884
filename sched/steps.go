package sched

import (
	"decorum/api"
	"decorum/feed"
	"decorum/policy"
	"decorum/robots"
	"decorum/tick"
	"decorum/url"
)

// Do performs a step.
func (s *Sched) Do(x api.Step) (api.Event, api.Errno) {
	if s == nil {
		return api.Event{}, api.ErrArg
	}
	e := api.OK
	switch x.Kind {
	case api.StepAdd:
		return s.add(x)
	case api.StepPoll:
		return s.poll()
	case api.StepClock:
		s.clock(x.A)
	case api.StepAnswer:
		e = s.answer(x)
	case api.StepLost:
		e = s.lost(x)
	case api.StepCancel:
		e = s.cancel(x.A)
	case api.StepCrash:
		s.crash(x.A)
	case api.StepFault:
		s.disk.Fault(x.A, x.B)
	default:
		e = api.ErrArg
	}
	return api.Event{}, e
}

func (s *Sched) add(x api.Step) (api.Event, api.Errno) {
	u, e := url.Parse(x.Text)
	if e != api.OK {
		return api.Event{}, e
	}
	if x.A < 0 || x.A > api.MaxPrio || x.B < 0 || x.B > api.MaxMs {
		return api.Event{}, api.ErrArg
	}
	r := api.Req{ID: s.log.Next(), Host: url.Key(u), Path: url.Target(u), Prio: x.A, Until: x.B}
	if e := s.accepts(r); e != api.OK {
		return api.Event{}, e
	}
	if e := s.log.Put(r); e != api.OK {
		return api.Event{}, e
	}
	// Not before everything that can be refused: a refused call adds no host.
	host := s.meet(r.Host)
	s.front.Back(host, r)
	s.update(host)
	return api.Event{At: s.now, Req: r}, api.OK
}

// accepts tells whether there is room for a request, and no other one for the same.
func (s *Sched) accepts(r api.Req) api.Errno {
	host, ok := s.hosts.Find(r.Host)
	switch {
	case !ok && s.hosts.Len() >= s.config.Hosts:
		return api.ErrFull
	case !ok:
		return api.OK
	case s.front.Has(host, r.Path) || s.isFlying(r):
		return api.ErrDup
	case s.front.Len(host) >= s.config.PerHost:
		return api.ErrFull
	}
	return api.OK
}

func (s *Sched) isFlying(r api.Req) bool {
	for _, other := range s.flying {
		if other.Host == r.Host && other.Path == r.Path {
			return true
		}
	}
	return false
}

func (s *Sched) poll() (api.Event, api.Errno) {
	host, key, ok := s.keys.Min()
	if !ok || key > s.now || s.level < perToken {
		return api.Event{Kind: api.Nothing, At: s.now}, api.OK
	}
	p := s.policies[host]
	if !policy.Knows(p, s.now) {
		name, _ := s.hosts.Name(host)
		return s.send(api.Asked, host, api.Req{ID: query(host), Host: name, Path: rulesPath}), api.OK
	}
	r, _ := s.front.First(host)
	s.front.Drop(r.ID)
	switch {
	case r.Until > 0 && r.Until < s.now:
		return s.refuse(api.Late, host, r)
	case !robots.Allowed(p.Rules, r.Path):
		return s.refuse(api.Barred, host, r)
	}
	return s.send(api.Sent, host, r), api.OK
}

func (s *Sched) send(kind, host int, r api.Req) api.Event {
	s.level, _ = tick.Take(s.level)
	s.flying[r.ID] = r
	s.policies[host] = policy.Send(s.config, s.policies[host], s.now)
	s.update(host)
	return api.Event{Kind: kind, At: s.now, Req: r}
}

// refuse is the end of a request that is not sent.
func (s *Sched) refuse(kind, host int, r api.Req) (api.Event, api.Errno) {
	s.update(host)
	return api.Event{Kind: kind, At: s.now, Req: r}, s.log.Done(r.ID)
}

// land ends the flight of a request, and returns it with its host's number.
func (s *Sched) land(id int) (r api.Req, host int, ok bool) {
	r, ok = s.flying[id]
	if !ok {
		return api.Req{}, 0, false
	}
	delete(s.flying, id)
	host, _ = s.hosts.Find(r.Host)
	return r, host, true
}

func (s *Sched) answer(x api.Step) api.Errno {
	r, host, ok := s.land(x.A)
	if !ok {
		return api.ErrNone
	}
	f := feed.From(x.B, x.Headers, s.now)
	p := policy.Answer(s.config, s.policies[host], f, s.now, x.C)
	e := api.OK
	if r.ID == query(host) {
		p = policy.Learn(s.config, p, robots.Read(x.B, x.Text, s.config.Agent), s.now)
	} else {
		e = s.log.Done(r.ID)
	}
	s.policies[host] = p
	s.update(host)
	if f.Retry > s.now {
		late := s.log.Wait(r.Host, f.Retry)
		if e == api.OK {
			e = late
		}
	}
	return e
}

func (s *Sched) lost(x api.Step) api.Errno {
	r, host, ok := s.land(x.A)
	if !ok {
		return api.ErrNone
	}
	s.policies[host] = policy.Lost(s.config, s.policies[host], s.now, x.C)
	if r.ID != query(host) {
		s.front.Back(host, r)
	}
	s.update(host)
	return api.OK
}

func (s *Sched) cancel(id int) api.Errno {
	host, ok := s.front.Host(id)
	if !ok {
		return api.ErrNone
	}
	s.front.Drop(id)
	s.update(host)
	return s.log.Done(id)
}
