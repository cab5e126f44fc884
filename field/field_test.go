package field

import (
	"math"
	"reflect"
	"strings"
	"testing"

	"decorum/api"
)

func num(n int) api.Value    { return api.Value{Kind: api.Number, N: n} }
func txt(s string) api.Value { return api.Value{Kind: api.Text, S: s} }
func wrd(s string) api.Value { return api.Value{Kind: api.Word, S: s} }
func flag(n int) api.Value   { return api.Value{Kind: api.Flag, N: n} }
func bare(k string) api.Item { return api.Item{Key: k, V: flag(1)} }
func pb(k string) api.Param  { return api.Param{Key: k, V: flag(1)} }
func same(a, b []api.Item) bool {
	return len(a) == 0 && len(b) == 0 || reflect.DeepEqual(a, b)
}

func TestParse(t *testing.T) {
	for _, c := range []struct {
		s    string
		want []api.Item
	}{
		{"", nil}, {" ", nil}, {"    ", nil},
		{"a", []api.Item{bare("a")}},
		{"  a", []api.Item{bare("a")}},
		{"a \t ", []api.Item{bare("a")}},
		{"a,b", []api.Item{bare("a"), bare("b")}},
		{"a \t,\t b", []api.Item{bare("a"), bare("b")}},
		{"a,a=1", []api.Item{bare("a"), {Key: "a", V: num(1)}}},
		{"*, a_-.*09", []api.Item{bare("*"), bare("a_-.*09")}},
		{"z, zaz", []api.Item{bare("z"), bare("zaz")}},
		{"a=0", []api.Item{{Key: "a", V: num(0)}}},
		{"a=-0", []api.Item{{Key: "a", V: num(0)}}},
		{"a=007", []api.Item{{Key: "a", V: num(7)}}},
		{"a=-12", []api.Item{{Key: "a", V: num(-12)}}},
		{"a=999999999999999", []api.Item{{Key: "a", V: num(999999999999999)}}},
		{"a=-999999999999999", []api.Item{{Key: "a", V: num(-999999999999999)}}},
		{`a="",b=" ~\"\\"`, []api.Item{{Key: "a", V: txt("")}, {Key: "b", V: txt(` ~"\`)}}},
		{`a="x, y;z=1"`, []api.Item{{Key: "a", V: txt("x, y;z=1")}}},
		{"a=b", []api.Item{{Key: "a", V: wrd("b")}}},
		{"a=*", []api.Item{{Key: "a", V: wrd("*")}}},
		{"a=Zz09_-.*!#$%&'+^|~:/", []api.Item{{Key: "a", V: wrd("Zz09_-.*!#$%&'+^|~:/")}}},
		{"a=?1,b=?0", []api.Item{bare("a"), {Key: "b", V: flag(0)}}},
		{`"A b"`, []api.Item{bare("A b")}},
		{`""`, []api.Item{bare("")}},
		{`"a";q=2`, []api.Item{{Key: "a", V: flag(1), Params: []api.Param{{Key: "q", V: num(2)}}}}},
		{"a;b", []api.Item{{Key: "a", V: flag(1), Params: []api.Param{pb("b")}}}},
		{"a=1;   b;c=?0;b=x;d=\";\"", []api.Item{{Key: "a", V: num(1), Params: []api.Param{pb("b"), {Key: "c", V: flag(0)}, {Key: "b", V: wrd("x")}, {Key: "d", V: txt(";")}}}}},
		{`"default";r=50;t=30, "day";r=0;t=7200`, []api.Item{
			{Key: "default", V: flag(1), Params: []api.Param{{Key: "r", V: num(50)}, {Key: "t", V: num(30)}}},
			{Key: "day", V: flag(1), Params: []api.Param{{Key: "r", V: num(0)}, {Key: "t", V: num(7200)}}}}},
	} {
		if got, ok := Parse(c.s); !ok || !same(got, c.want) {
			t.Errorf("Parse(%q) = %+v %v", c.s, got, ok)
		}
	}
}

func TestNoFieldText(t *testing.T) {
	for _, s := range []string{
		"\t", " \t", "\ta", ",", "a,", "a, ", ",a", "a,,b", "a b", "a;", "a; ", "a;;b", "a ;b", "a;\tb", "a; b ;c", "a;B", "a;1", `a;"b"`, "a;b=", "a;b= 1", "a;b =1",
		"A", "aB", "1", "-1", "?1", "_a", "-", ".a", "é", "a\xff", "\x00", "a\x00", "a\n", "a,\nb",
		"a=", "a= 1", "a =1", "a=1.5", "a=1x", "a=-", "a=--1", "a=+1", "a=1234567890123456", "a=-1234567890123456", "a=0000000000000001",
		`a="`, `a="x`, `a="\x"`, `a="\`, `a="x\"`, "a=\"\x1f\"", "a=\"\x7f\"", "a=\"é\"", "a=\"\t\"", `a="x"y`, `a=x"y"`,
		"a=?", "a=?2", "a=?10", "a=?t", "a=b=c", "a=_b", "a=b`", "a=b@", "a=b(", "a==b", "a=é", "a=bé",
		`"a"=1`, `"a" "b"`, `"a`, `"\a"`, "\"\x80\"", "=1", ";a",
	} {
		if got, ok := Parse(s); ok || got != nil {
			t.Errorf("Parse(%q) = %+v", s, got)
		}
	}
}

func TestItemsLimit(t *testing.T) {
	full := strings.Repeat("a,", api.MaxItems-1) + "a"
	if got, ok := Parse(full); !ok || len(got) != api.MaxItems {
		t.Error("as many items as there may be", len(got), ok)
	}
	if got, ok := Parse(full + ",a"); ok || got != nil {
		t.Error("an item too many", len(got))
	}
	many := make([]api.Item, api.MaxItems)
	for i := range many {
		many[i] = bare("a")
	}
	if s, ok := Print(many); !ok || s != strings.ReplaceAll(full, ",", ", ") {
		t.Error("Print", s, ok)
	}
	if s, ok := Print(append(many, bare("a"))); ok || s != "" {
		t.Error("Print of an item too many", s)
	}
	params := strings.Repeat(";a", 100)
	if got, ok := Parse("a" + params); !ok || len(got[0].Params) != 100 {
		t.Error("parameters have no limit")
	}
}

func TestPrint(t *testing.T) {
	for _, c := range []struct {
		list []api.Item
		want string
	}{
		{nil, ""}, {[]api.Item{}, ""},
		{[]api.Item{bare("a"), bare("A b"), bare(""), bare(`"\`)}, `a, "A b", "", "\"\\"`},
		{[]api.Item{{Key: "a", V: num(-3)}, {Key: "b", V: txt(`x"\`)}, {Key: "c", V: wrd("W/x")}, {Key: "d", V: flag(0)}}, `a=-3, b="x\"\\", c=W/x, d=?0`},
		{[]api.Item{{Key: "a", V: num(999999999999999)}}, "a=999999999999999"},
		{[]api.Item{{Key: "a", V: flag(1), Params: []api.Param{}}}, "a"},
		{[]api.Item{{Key: "1", V: flag(1), Params: []api.Param{pb("b"), {Key: "c", V: flag(0)}, {Key: "d", V: num(0)}, {Key: "e", V: txt("")}}}}, `"1";b;c=?0;d=0;e=""`},
	} {
		s, ok := Print(c.list)
		if !ok || s != c.want {
			t.Errorf("Print(%+v) = %q %v", c.list, s, ok)
		}
		if back, ok := Parse(s); !ok || len(back) != len(c.list) {
			t.Errorf("Parse(%q) = %+v", s, back)
		}
	}
}

func TestCannotBePrinted(t *testing.T) {
	for _, list := range [][]api.Item{
		{{}}, {{Key: "a"}}, {{Key: "a", V: api.Value{Kind: 5}}}, {{Key: "a", V: api.Value{Kind: -1, N: 1}}},
		{{Key: "A", V: num(1)}}, {{Key: "A", V: flag(0)}}, {{Key: "A", V: txt("x")}},
		{{Key: "a", V: flag(2)}}, {{Key: "a", V: flag(-1)}}, {{Key: "a", V: api.Value{Kind: api.Flag, N: 1, S: "x"}}}, {{Key: "a", V: api.Value{Kind: api.Number, N: 1, S: "x"}}}, {{Key: "a", V: api.Value{Kind: api.Text, N: 1, S: "x"}}}, {{Key: "a", V: api.Value{Kind: api.Word, N: 1, S: "x"}}},
		{{Key: "a", V: num(1000000000000000)}}, {{Key: "a", V: num(math.MinInt)}}, {{Key: "a", V: num(math.MaxInt)}},
		{{Key: "a", V: txt("é")}}, {{Key: "a", V: txt("\n")}}, {{Key: "a", V: txt("\xff")}}, {bare("é")}, {bare("\t")},
		{{Key: "a", V: wrd("")}}, {{Key: "a", V: wrd("1")}}, {{Key: "a", V: wrd("x y")}}, {{Key: "a", V: wrd("x, b")}}, {{Key: "a", V: wrd("x;b")}}, {{Key: "a", V: wrd("x;b=1, c")}}, {{Key: "a", V: wrd("?1")}}, {{Key: "a", V: wrd(`"x"`)}}, {{Key: "a", V: wrd("x ")}},
		{{Key: "a", V: flag(1), Params: []api.Param{pb("B")}}}, {{Key: "a", V: flag(1), Params: []api.Param{pb("")}}}, {{Key: "a", V: flag(1), Params: []api.Param{{Key: "b"}}}},
		{bare("a"), {}},
	} {
		if s, ok := Print(list); ok || s != "" {
			t.Errorf("Print(%+v) = %q", list, s)
		}
	}
}

func TestNumberAndParam(t *testing.T) {
	list := []api.Item{{Key: "a", V: num(1)}, {Key: "b", V: num(2)}, {Key: "a", V: num(3)}, {Key: "b", V: txt("x")}, {Key: "c", V: api.Value{N: 4}}, {Key: "d", V: flag(1)}, {Key: "", V: num(-9)}}
	params := make([]api.Param, len(list))
	for i, item := range list {
		params[i] = api.Param{Key: item.Key, V: item.V}
	}
	for _, c := range []struct {
		key  string
		want int
		ok   bool
	}{{"a", 3, true}, {"b", 0, false}, {"c", 0, false}, {"d", 0, false}, {"e", 0, false}, {"A", 0, false}, {"", -9, true}} {
		if n, ok := Number(list, c.key); n != c.want || ok != c.ok {
			t.Errorf("Number(%q) = %d %v", c.key, n, ok)
		}
		if n, ok := Param(api.Item{Key: "x", V: num(7), Params: params}, c.key); n != c.want || ok != c.ok {
			t.Errorf("Param(%q) = %d %v", c.key, n, ok)
		}
	}
	if _, ok := Number(nil, "a"); ok {
		t.Error("Number of nothing")
	}
	if _, ok := Param(api.Item{Key: "a", V: num(1)}, "a"); ok {
		t.Error("Param of nothing")
	}
}

func FuzzParse(f *testing.F) {
	for _, s := range []string{"a=1;b, \"x\"", "a=?0", `a="\""`, "a=*x;  b=-0"} {
		f.Add(s)
	}
	f.Fuzz(func(t *testing.T, s string) {
		list, ok := Parse(s)
		if !ok {
			return
		}
		text, ok := Print(list)
		if !ok {
			t.Fatalf("Print of Parse(%q)", s)
		}
		if again, ok := Parse(text); !ok || !same(again, list) {
			t.Fatalf("Parse(%q) and Parse(%q) differ", s, text)
		}
	})
}
