package shell

import (
	"math"
	"strings"
	"testing"

	"decorum/api"
	"decorum/tale"
)

func config() api.Config {
	return api.Config{Hosts: 4, PerHost: 3, Memory: 2, Segs: 3, Floor: 100, Cap: 2, Base: 1000, Most: 8000, Break: 2, Open: 5000, Rate: 1000, Burst: 20, Keep: 1 << 30, Agent: "FooBot/1.0"}
}

func script(t *testing.T, steps ...api.Step) string {
	t.Helper()
	text := ""
	for _, x := range steps {
		line, e := tale.Line(x)
		if e != api.OK {
			t.Fatalf("Line(%+v): %d", x, e)
		}
		text += line + "\n"
	}
	return text
}

func TestTell(t *testing.T) {
	r := api.Req{ID: 5, Host: "http://a", Path: "/x?y", Prio: 3, Until: 9}
	for _, c := range []struct {
		e    api.Event
		want string
	}{
		{api.Event{}, "- 0"},
		{api.Event{At: -7, Req: api.Req{Host: "http://a", Path: "/"}}, "- -7"},
		{api.Event{At: 7, Req: r}, "- 7 5 http://a/x?y"},
		{api.Event{At: 7, Req: api.Req{ID: -1}}, "- 7 -1 "},
		{api.Event{Kind: api.Sent, At: 7, Req: r}, "sent 7 5 http://a/x?y"},
		{api.Event{Kind: api.Sent}, "sent 0 0 "},
		{api.Event{Kind: api.Asked, At: 7, Req: api.Req{ID: -1, Host: "http://a", Path: "/robots.txt"}}, "asked 7 -1 http://a/robots.txt"},
		{api.Event{Kind: api.Late, At: 7, Req: r}, "late 7 5 http://a/x?y"},
		{api.Event{Kind: api.Barred, At: math.MaxInt, Req: r}, "barred 9223372036854775807 5 http://a/x?y"},
		{api.Event{Kind: 5, At: math.MinInt, Req: r}, "? -9223372036854775808 5 http://a/x?y"},
		{api.Event{Kind: -1}, "? 0 0 "},
		{api.Event{Kind: api.Sent, Req: api.Req{ID: 1, Host: "\xff", Path: "\n"}}, "sent 0 1 \xff\n"},
	} {
		if got := Tell(c.e); got != c.want {
			t.Errorf("Tell(%+v) = %q, not %q", c.e, got, c.want)
		}
	}
}

func TestExampleOfTheDocument(t *testing.T) {
	got, e := Run(config(), "add 0 0 x687474703a2f2f612f78\npoll")
	if e != api.OK || got != "0 - 0 1 http://a/x\n0 asked 0 -1 http://a/robots.txt\n" {
		t.Errorf("%q %d", got, e)
	}
}

func TestRun(t *testing.T) {
	text := script(t,
		api.Step{Kind: api.StepPoll},
		api.Step{Kind: api.StepAdd, Text: "http://a/x"},
		api.Step{Kind: api.StepAdd, Text: "http://a/y", B: 50},
		api.Step{Kind: api.StepAdd, Text: "http://a/z", A: 1},
		api.Step{Kind: api.StepAdd, Text: "http://a/x"},
		api.Step{Kind: api.StepAdd, Text: "http://a/%"},
		api.Step{Kind: api.StepAdd, Text: "http://"},
		api.Step{Kind: api.StepAdd, Text: "http://a/w"},
		api.Step{Kind: api.StepPoll},
		api.Step{Kind: api.StepAnswer, A: -1, B: 200, Text: "user-agent: foobot\ndisallow: /z", Headers: []api.Header{{Name: "Retry-After", Value: "1"}}},
		api.Step{Kind: api.StepPoll},
		api.Step{Kind: api.StepClock, A: 1000},
		api.Step{Kind: api.StepPoll},
		api.Step{Kind: api.StepClock, A: 1100},
		api.Step{Kind: api.StepPoll},
		api.Step{Kind: api.StepFault, A: 0, B: 1},
		api.Step{Kind: api.StepPoll},
		api.Step{Kind: api.StepAnswer, A: 7, B: 200},
		api.Step{Kind: api.StepLost, A: 1},
		api.Step{Kind: api.StepCrash},
		api.Step{Kind: api.StepPoll},
		api.Step{Kind: api.StepCancel, A: 1},
	)
	want := strings.Join([]string{
		"0 - 0",
		"0 - 0 1 http://a/x",
		"0 - 0 2 http://a/y",
		"0 - 0 3 http://a/z",
		"10 - 0",
		"2 - 0",
		"11 - 0",
		"5 - 0",
		"0 asked 0 -1 http://a/robots.txt",
		"0 - 0",
		"0 - 0",
		"0 - 0",
		"0 sent 1000 1 http://a/x",
		"0 - 0",
		"0 late 1100 2 http://a/y",
		"0 - 0",
		"7 barred 1100 3 http://a/z",
		"4 - 0",
		"0 - 0",
		"0 - 0",
		"0 - 1100",
		"0 - 0",
	}, "\n") + "\n"
	if got, e := Run(config(), text); e != api.OK || got != want {
		t.Errorf("%d\n%s", e, got)
	}
}

func TestRunErrors(t *testing.T) {
	bad := config()
	bad.Rate = 0
	for _, c := range []struct {
		config api.Config
		script string
		want   api.Errno
	}{
		{config(), "stop", api.ErrText}, {config(), "poll\n\n", api.ErrText}, {bad, "stop", api.ErrText}, {bad, "poll", api.ErrArg}, {bad, "", api.ErrArg}, {api.Config{}, "", api.ErrArg},
		{config(), strings.Repeat("poll\n", api.MaxSteps+1), api.ErrOver}, {bad, strings.Repeat("poll\n", api.MaxSteps+1), api.ErrOver},
	} {
		if got, e := Run(c.config, c.script); got != "" || e != c.want {
			t.Errorf("Run of %.20q: %q %d, not %d", c.script, got, e, c.want)
		}
	}
	if got, e := Run(config(), ""); got != "" || e != api.OK {
		t.Error("Run of nothing", got, e)
	}
	if got, e := Run(config(), strings.Repeat("poll\n", api.MaxSteps)); got != strings.Repeat("0 - 0\n", api.MaxSteps) || e != api.OK {
		t.Error("Run of a long script", len(got), e)
	}
}
