package robots

import (
	"math"
	"reflect"
	"strings"
	"testing"

	"decorum/api"
	"decorum/lines"
)

func TestToken(t *testing.T) {
	for agent, want := range map[string]string{
		"": "", "FooBot": "foobot", "Foo-Bot_x/1.0": "foo-bot_x", "foo bot": "foo", "foo1": "foo", "1foo": "", "*": "", " foo": "", "-_": "-_", "fooé": "foo", "é": "", "foo\xff": "foo", "\xff": "", "K\u212a": "k", "A.b": "a",
	} {
		if got := Token(agent); got != want {
			t.Errorf("Token(%q) = %q", agent, got)
		}
	}
}

func allow(p string) api.Rule    { return api.Rule{Allow: true, Pattern: p} }
func disallow(p string) api.Rule { return api.Rule{Pattern: p} }

func TestPick(t *testing.T) {
	list := []lines.Group{
		{Agents: []string{"*"}, Rules: []api.Rule{disallow("/all")}, Delay: 9000},
		{Agents: []string{"foo/2", "bar"}, Rules: []api.Rule{allow("/1"), disallow("/2")}, Delay: 1000},
		{Agents: []string{"other", "*"}, Rules: []api.Rule{allow("/too")}},
		{Agents: []string{"foo-bot"}, Rules: []api.Rule{allow("/no")}, Delay: 5000},
		{Agents: []string{"FOO"}, Rules: []api.Rule{disallow("/3")}, Delay: 500},
		{Agents: []string{"baz"}, Delay: -5},
		{Agents: []string{"*x", ""}, Rules: []api.Rule{allow("/never")}},
	}
	everybody := api.Robots{Rules: []api.Rule{disallow("/all"), allow("/too")}, Delay: 9000}
	for agent, want := range map[string]api.Robots{
		"Foo/1.0": {Rules: []api.Rule{allow("/1"), disallow("/2"), disallow("/3")}, Delay: 1000},
		"bar":     {Rules: []api.Rule{allow("/1"), disallow("/2")}, Delay: 1000},
		"OTHER x": {Rules: []api.Rule{allow("/too")}},
		"baz":     {},
		"fo":      everybody, "foox": everybody, "": everybody, "*": everybody, "7foo": everybody, "*x": everybody,
	} {
		if got := Pick(list, agent); got.All || got.None || got.Delay != want.Delay || len(got.Rules)+len(want.Rules) > 0 && !reflect.DeepEqual(got.Rules, want.Rules) {
			t.Errorf("Pick for %q: %+v", agent, got)
		}
	}
	if got := Pick(nil, "foo"); got.All || got.None || len(got.Rules) != 0 || got.Delay != 0 {
		t.Errorf("Pick of nothing: %+v", got)
	}
	if got := Pick(list[1:2], "foox"); len(got.Rules) != 0 || got.Delay != 0 {
		t.Errorf("Pick without a group for everybody: %+v", got)
	}
}

func TestPickHasSoManyRules(t *testing.T) {
	rules := make([]api.Rule, api.MaxRules-1)
	list := []lines.Group{{Agents: []string{"a"}, Rules: rules}, {Agents: []string{"a"}, Rules: []api.Rule{allow("/64"), allow("/65")}, Delay: 7}, {Agents: []string{"a"}, Rules: rules, Delay: 8}}
	got := Pick(list, "a")
	if len(got.Rules) != api.MaxRules || got.Rules[api.MaxRules-1] != allow("/64") || got.Delay != 8 {
		t.Errorf("%d rules, delay %d", len(got.Rules), got.Delay)
	}
	if cap(got.Rules) != api.MaxRules {
		t.Errorf("spare capacity: %d", cap(got.Rules))
	}
}

func TestPickIsNew(t *testing.T) {
	rules := make([]api.Rule, 1, 9)
	list := []lines.Group{{Agents: []string{"a"}, Rules: rules}}
	got := Pick(list, "a")
	got.Rules[0] = allow("/x")
	_ = append(got.Rules, allow("/y"))
	if rules[0] != (api.Rule{}) || rules[:2][1] != (api.Rule{}) {
		t.Error("the groups' rules were changed")
	}
}

func TestRead(t *testing.T) {
	const body = "user-agent: foo\ndisallow: /x\ncrawl-delay: 2\nuser-agent: *\ndisallow: /"
	for _, status := range []int{200, 204, 299} {
		if got := Read(status, body, "Foo/1"); !reflect.DeepEqual(got, api.Robots{Rules: []api.Rule{disallow("/x")}, Delay: 2000}) {
			t.Errorf("%d: %+v", status, got)
		}
		if got := Read(status, "", "Foo/1"); got.All || got.None || len(got.Rules) != 0 {
			t.Errorf("%d, empty: %+v", status, got)
		}
	}
	for _, status := range []int{400, 401, 404, 410, 428, 430, 499} {
		if got := Read(status, body, "Foo/1"); !reflect.DeepEqual(got, api.Robots{All: true}) {
			t.Errorf("%d: %+v", status, got)
		}
	}
	for _, status := range []int{429, 0, -1, 100, 199, 300, 301, 304, 399, 500, 503, 599, 600, math.MaxInt, math.MinInt} {
		if got := Read(status, body, "Foo/1"); !reflect.DeepEqual(got, api.Robots{None: true}) {
			t.Errorf("%d: %+v", status, got)
		}
	}
	if got := Read(200, strings.Repeat("#", api.MaxRobots)+"\n"+body, "foo"); len(got.Rules) != 0 {
		t.Errorf("rules after the first bytes: %+v", got)
	}
}

func TestAllowed(t *testing.T) {
	rules := []api.Rule{disallow("/"), allow("/a")}
	for _, c := range []struct {
		r    api.Robots
		path string
		want bool
	}{
		{api.Robots{}, "/x", true}, {api.Robots{All: true, Rules: rules}, "/x", true}, {api.Robots{None: true, Rules: rules}, "/a", false}, {api.Robots{All: true, None: true}, "/x", true},
		{api.Robots{None: true}, "/robots.txt", true}, {api.Robots{Rules: rules}, "/robots.txt", true}, {api.Robots{Rules: rules}, "/robots.txt?x", false}, {api.Robots{None: true}, "/robots.tx", false},
		{api.Robots{Rules: rules}, "/a?b", true}, {api.Robots{Rules: rules}, "/b", false}, {api.Robots{Rules: rules}, "", true},
	} {
		if got := Allowed(c.r, c.path); got != c.want {
			t.Errorf("Allowed(%+v, %q) = %v", c.r, c.path, got)
		}
	}
}
