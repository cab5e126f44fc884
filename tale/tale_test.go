package tale

import (
	"math"
	"reflect"
	"strings"
	"testing"

	"decorum/api"
)

var pairs = []struct {
	line string
	step api.Step
}{
	{"add 0 0 x", api.Step{Kind: api.StepAdd}},
	{"add 0 0 x687474703a2f2f612f78", api.Step{Kind: api.StepAdd, Text: "http://a/x"}},
	{"add 7 -12 x00ff0a20c3a9", api.Step{Kind: api.StepAdd, A: 7, B: -12, Text: "\x00\xff\n é"}},
	{"clock 0", api.Step{Kind: api.StepClock}},
	{"clock 9223372036854775807", api.Step{Kind: api.StepClock, A: math.MaxInt}},
	{"clock -9223372036854775808", api.Step{Kind: api.StepClock, A: math.MinInt}},
	{"poll", api.Step{Kind: api.StepPoll}},
	{"answer -1 200 5 x", api.Step{Kind: api.StepAnswer, A: -1, B: 200, C: 5}},
	{"answer 1 2 3 x61 x x", api.Step{Kind: api.StepAnswer, A: 1, B: 2, C: 3, Text: "a", Headers: []api.Header{{}}}},
	{"answer 1 0 0 x x61 x62 x63 x", api.Step{Kind: api.StepAnswer, A: 1, Headers: []api.Header{{Name: "a", Value: "b"}, {Name: "c"}}}},
	{"lost 1 -2 3", api.Step{Kind: api.StepLost, A: 1, B: -2, C: 3}},
	{"cancel 10", api.Step{Kind: api.StepCancel, A: 10}},
	{"crash -1", api.Step{Kind: api.StepCrash, A: -1}},
	{"fault 3 4", api.Step{Kind: api.StepFault, A: 3, B: 4}},
}

func TestLineAndStep(t *testing.T) {
	for _, p := range pairs {
		if got, e := Line(p.step); got != p.line || e != api.OK {
			t.Errorf("Line(%+v) = %q %d", p.step, got, e)
		}
		if got, e := Step(p.line); !reflect.DeepEqual(got, p.step) || e != api.OK {
			t.Errorf("Step(%q) = %+v %d", p.line, got, e)
		}
	}
	if got, e := Line(api.Step{Kind: api.StepPoll, Headers: []api.Header{}}); got != "poll" || e != api.OK {
		t.Error("an empty list of headers", got, e)
	}
}

func TestNoLine(t *testing.T) {
	one := []api.Header{{}}
	for _, x := range []api.Step{
		{}, {Kind: -1}, {Kind: 9}, {Kind: math.MaxInt}, {Kind: math.MinInt},
		{Kind: api.StepAdd, C: 1}, {Kind: api.StepAdd, Headers: one},
		{Kind: api.StepClock, B: 1}, {Kind: api.StepClock, C: -1}, {Kind: api.StepClock, Text: "x"}, {Kind: api.StepClock, Headers: one},
		{Kind: api.StepPoll, A: 1}, {Kind: api.StepPoll, B: 1}, {Kind: api.StepPoll, C: 1}, {Kind: api.StepPoll, Text: "x"}, {Kind: api.StepPoll, Headers: one},
		{Kind: api.StepLost, Text: "x"}, {Kind: api.StepLost, Headers: one},
		{Kind: api.StepCancel, B: 1}, {Kind: api.StepCancel, C: 1}, {Kind: api.StepCancel, Text: "x"}, {Kind: api.StepCancel, Headers: one},
		{Kind: api.StepCrash, B: 1}, {Kind: api.StepCrash, C: 1}, {Kind: api.StepCrash, Text: "x"}, {Kind: api.StepCrash, Headers: one},
		{Kind: api.StepFault, C: 1}, {Kind: api.StepFault, Text: "x"}, {Kind: api.StepFault, Headers: one},
	} {
		if got, e := Line(x); got != "" || e != api.ErrArg {
			t.Errorf("Line(%+v) = %q %d", x, got, e)
		}
	}
}

var wrong = []string{
	"", " ", "Poll", "poll ", " poll", "poll 1", "poll x", "poll\n", "poll\r", "pol", "polls", "stop", "\xff",
	"add", "add 0", "add 0 0", "add 0 0 ", "add 0  0 x", "add 0 0 x ", "add 0 0 x x", "add 0 0 x x x", "add 0 0 0", "add 0 0 0 x", "add x 0 x", "add 0 0 x6", "add 0 0 x6g", "add 0 0 x6A", "add 0 0 X61", "add 0 0 61", "add 0 0 x61 ", "add\t0 0 x", "add 0 0 x-1", "add 0 0 x6\xff",
	"clock", "clock ", "clock 00", "clock 01", "clock +1", "clock -0", "clock -01", "clock --1", "clock -", "clock 1.0", "clock 1e3", "clock 0x1", "clock 1_0", "clock 9223372036854775808", "clock -9223372036854775809", "clock ١", "clock 1 2", "clock  1", "clock 1 ", "clock x31",
	"answer 1 2 3", "answer 1 2 x", "answer 1 2 3 x x", "answer 1 2 3 x x x x", "answer 1 2 3 x x x ", "answer 1 2 3 4 x", "answer 1 2 3 x x6 x",
	"lost", "lost 1", "lost 1 2", "lost 1 2 3 4", "lost 1 2 3 x", "cancel", "cancel x", "cancel 1 2", "crash", "crash 1 2", "fault", "fault 1", "fault 1 2 3", "fault 1 2 x",
}

func TestNoStep(t *testing.T) {
	for _, s := range wrong {
		if got, e := Step(s); !reflect.DeepEqual(got, api.Step{}) || e != api.ErrText {
			t.Errorf("Step(%q) = %+v %d", s, got, e)
		}
	}
}

func TestRead(t *testing.T) {
	var text string
	var want []api.Step
	for _, p := range pairs {
		text += p.line + "\n"
		want = append(want, p.step)
	}
	for _, s := range []string{text, strings.TrimSuffix(text, "\n")} {
		if got, n, e := Read(s); !reflect.DeepEqual(got, want) || n != 0 || e != api.OK {
			t.Errorf("Read of %d lines: %d %d %d", len(want), len(got), n, e)
		}
	}
	if got, n, e := Read(""); len(got) != 0 || n != 0 || e != api.OK {
		t.Error("Read of nothing", got, n, e)
	}
	for _, c := range []struct {
		s    string
		line int
	}{{"\n", 1}, {"poll\n\n", 2}, {"\npoll", 1}, {"poll\n\npoll", 2}, {"poll\r\npoll", 1}, {"poll\npoll\npol", 3}, {"poll\nx\ny\n", 2}, {"poll\n ", 2}} {
		if got, n, e := Read(c.s); got != nil || n != c.line || e != api.ErrText {
			t.Errorf("Read(%q) = %v %d %d", c.s, got, n, e)
		}
	}
}

func TestReadSoManyLines(t *testing.T) {
	full := strings.Repeat("poll\n", api.MaxSteps)
	if got, n, e := Read(full); len(got) != api.MaxSteps || n != 0 || e != api.OK {
		t.Error("as many lines as there may be", len(got), n, e)
	}
	for _, more := range []string{"poll", "poll\n", "\n", "wrong", "poll\nwrong"} {
		if got, n, e := Read(full + more); got != nil || n != 0 || e != api.ErrOver {
			t.Errorf("and %q: %d %d %d", more, len(got), n, e)
		}
	}
	if got, n, e := Read("wrong\n" + full); got != nil || n != 1 || e != api.ErrText {
		t.Error("a wrong line at first", len(got), n, e)
	}
	last := strings.Repeat("poll\n", api.MaxSteps-1) + "wrong\npoll\n"
	if got, n, e := Read(last); got != nil || n != api.MaxSteps || e != api.ErrText {
		t.Error("a wrong line at last", len(got), n, e)
	}
}

func FuzzStep(f *testing.F) {
	for _, p := range pairs {
		f.Add(p.line)
	}
	for _, s := range wrong {
		f.Add(s)
	}
	f.Fuzz(func(t *testing.T, s string) {
		x, e := Step(s)
		if e != api.OK {
			return
		}
		if line, e := Line(x); line != s || e != api.OK {
			t.Fatalf("%q becomes %q", s, line)
		}
	})
}
