package lines

import (
	"reflect"
	"strings"
	"testing"

	"decorum/api"
)

func TestParse(t *testing.T) {
	for _, c := range []struct {
		s    string
		want []Line
	}{
		{"", nil}, {"\n\r\n", nil}, {"no colon", nil}, {": value", nil}, {" \t: value", nil}, {"# a: b", nil}, {"a # : b", nil},
		{"a:b", []Line{{"a", "b"}}},
		{"a:b\n", []Line{{"a", "b"}}},
		{"a:b\r\nc:d\re:f\n\rg:", []Line{{"a", "b"}, {"c", "d"}, {"e", "f"}, {"g", ""}}},
		{" \tUser-AGENT \t: \tFoo Bar \t", []Line{{"user-agent", "Foo Bar"}}},
		{"a b:c:d", []Line{{"a b", "c:d"}}},
		{"a: b # c\n#\nd:#e", []Line{{"a", "b"}, {"d", ""}}},
		{"bad\na:1\nbad too\nA:1", []Line{{"a", "1"}, {"a", "1"}}},
		{"\xef\xbb\xbfa:b", []Line{{"a", "b"}}},
		{"\xef\xbb\xbf\xef\xbb\xbfa:b", []Line{{"\xef\xbb\xbfa", "b"}}},
		{"x:y\n\xef\xbb\xbfa:b", []Line{{"x", "y"}, {"\xef\xbb\xbfa", "b"}}},
		{"\xef\xbba:b", []Line{{"\xef\xbba", "b"}}},
		{"\xff\xfe: \x80\xc3", []Line{{"\xff\xfe", "\x80\xc3"}}},
		{"ÉA\u212a:É", []Line{{"Éa\u212a", "É"}}},
		{"a\v:\u00a0b\f", []Line{{"a\v", "\u00a0b\f"}}},
		{"a\u2028b:c", []Line{{"a\u2028b", "c"}}},
		{"a\x00:b", []Line{{"a\x00", "b"}}},
	} {
		if got := Parse(c.s); len(got)+len(c.want) > 0 && !reflect.DeepEqual(got, c.want) {
			t.Errorf("Parse(%q) = %q", c.s, got)
		}
	}
}

func TestParseTheFirstBytesOnly(t *testing.T) {
	fill := strings.Repeat("x", api.MaxRobots-3)
	for _, c := range []struct {
		s     string
		value string
	}{
		{"a:" + fill + "yz", fill + "y"},
		{"a:" + fill + "y", fill + "y"},
		{"\xef\xbb\xbfa:" + fill, fill[:api.MaxRobots-5]},
	} {
		if got := Parse(c.s); len(got) != 1 || got[0].Value != c.value {
			t.Errorf("%d bytes: %d lines", len(c.s), len(got))
		}
	}
	if got := Parse(strings.Repeat("\n", api.MaxRobots) + "a:b"); len(got) != 0 {
		t.Error("a line after the first bytes", got)
	}
	if got := Parse(strings.Repeat("\n", api.MaxRobots-2) + "a:b"); len(got) != 1 || got[0] != (Line{"a", ""}) {
		t.Error("a line that is cut off", got)
	}
}

func TestDelay(t *testing.T) {
	for s, want := range map[string]int{
		"0": 0, "1": 1000, "007": 7000, "999999999": 999999999000, "000000001": 1000,
		".5": 500, "1.5": 1500, "0.001": 1, "0.0009": 0, "1.2345": 1234, "1.99999999999999999999": 1999, "999999999.999": 999999999999, ".0": 0, ".12": 120,
	} {
		if got, ok := Delay(s); !ok || got != want {
			t.Errorf("Delay(%q) = %d %v, not %d", s, got, ok, want)
		}
	}
	for _, s := range []string{"", ".", "1.", "..", "1..5", "1.5.", "1.5.5", "1234567890", "0000000001", "1234567890.5", "-1", "+1", " 1", "1 ", "1s", "1,5", "1.5s", "1.-5", "1e3", "١", "1.٥", "\xff"} {
		if got, ok := Delay(s); ok || got != 0 {
			t.Errorf("Delay(%q) = %d", s, got)
		}
	}
}

func allow(p string) api.Rule    { return api.Rule{Allow: true, Pattern: p} }
func disallow(p string) api.Rule { return api.Rule{Pattern: p} }

func TestGroups(t *testing.T) {
	for _, c := range []struct {
		name string
		s    string
		want []Group
	}{
		{"nothing", "", nil},
		{"rules before the first group", "allow:/a\ncrawl-delay:5\nuser-agent:a", []Group{{Agents: []string{"a"}}}},
		{"one group", "user-agent: FooBot\nuser-agent:B\nallow:/a\ndisallow:/b\nallow:/c", []Group{{[]string{"foobot", "b"}, []api.Rule{allow("/a"), disallow("/b"), allow("/c")}, 0}}},
		{"two groups", "user-agent:a\ndisallow:/a\nuser-agent:a\nallow:/b", []Group{{[]string{"a"}, []api.Rule{disallow("/a")}, 0}, {[]string{"a"}, []api.Rule{allow("/b")}, 0}}},
		{"an empty rule ends the agents", "user-agent:a\ndisallow:\nuser-agent:b", []Group{{Agents: []string{"a"}}, {Agents: []string{"b"}}}},
		{"an empty allow, too", "user-agent:a\nallow:\nuser-agent:b", []Group{{Agents: []string{"a"}}, {Agents: []string{"b"}}}},
		{"a delay ends the agents", "user-agent:a\ncrawl-delay:x\nuser-agent:b\ncrawl-delay:1", []Group{{Agents: []string{"a"}}, {Agents: []string{"b"}, Delay: 1000}}},
		{"other lines don't", "user-agent:a\nsitemap:x\nuser-agent:b\nfoo:/x\nallow:/y\nsitemap:z\nallow:/z", []Group{{[]string{"a", "b"}, []api.Rule{allow("/y"), allow("/z")}, 0}}},
		{"the greatest delay", "user-agent:a\ncrawl-delay:1\ncrawl-delay:3\ncrawl-delay:2\ncrawl-delay:9.\nallow:/", []Group{{[]string{"a"}, []api.Rule{allow("/")}, 3000}}},
		{"an agent without a name", "user-agent:\nallow:/", []Group{{[]string{""}, []api.Rule{allow("/")}, 0}}},
		{"a pattern as it is", "user-agent:*\ndisallow:/A*b$ c", []Group{{[]string{"*"}, []api.Rule{disallow("/A*b$ c")}, 0}}},
	} {
		if got := Groups(Parse(c.s)); len(got)+len(c.want) > 0 && !reflect.DeepEqual(got, c.want) {
			t.Errorf("%s: %+v", c.name, got)
		}
	}
	odd := []Line{{"User-Agent", "a"}, {"user-agent", "A\xff"}, {"Allow", "/x"}, {"", "y"}}
	if got := Groups(odd); !reflect.DeepEqual(got, []Group{{Agents: []string{"a\xff"}}}) {
		t.Errorf("keys that Parse doesn't return: %+v", got)
	}
}

func TestGroupsHaveSoManyRules(t *testing.T) {
	list := []Line{{"user-agent", "a"}}
	for range api.MaxRules {
		list = append(list, Line{"allow", "/"})
	}
	list = append(list, Line{"disallow", "/last"}, Line{"user-agent", "b"}, Line{"disallow", "/"})
	got := Groups(list)
	if len(got) != 2 || len(got[0].Rules) != api.MaxRules || !got[0].Rules[api.MaxRules-1].Allow || len(got[1].Rules) != 1 {
		t.Errorf("%d groups: %+v", len(got), got)
	}
	list = []Line{{"user-agent", "a"}}
	for range api.MaxRules {
		list = append(list, Line{"allow", ""})
	}
	if got := Groups(append(list, Line{"disallow", "/"})); len(got) != 1 || len(got[0].Rules) != 1 {
		t.Errorf("empty rules don't count: %+v", got)
	}
}
