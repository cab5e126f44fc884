package intern

import (
	"math"
	"strconv"
	"testing"

	"decorum/api"
)

func TestNumbersInOrder(t *testing.T) {
	table := New(3)
	for i, c := range []struct {
		name string
		want int
		e    api.Errno
		size int
	}{
		{"a", 0, api.OK, 1}, {"b", 1, api.OK, 2}, {"a", 0, api.OK, 2}, {"", 2, api.OK, 3}, {"c", 0, api.ErrFull, 3}, {"b", 1, api.OK, 3}, {"", 2, api.OK, 3}, {"A", 0, api.ErrFull, 3},
	} {
		if n, e := table.Add(c.name); n != c.want || e != c.e || table.Len() != c.size {
			t.Errorf("%d: Add(%q) = %d %d, and there are %d", i, c.name, n, e, table.Len())
		}
	}
	for n, name := range []string{"a", "b", ""} {
		if got, ok := table.Find(name); !ok || got != n {
			t.Errorf("Find(%q) = %d %v", name, got, ok)
		}
		if got, ok := table.Name(n); !ok || got != name {
			t.Errorf("Name(%d) = %q %v", n, got, ok)
		}
	}
	if n, ok := table.Find("c"); ok || n != 0 {
		t.Error("a name that was refused", n, ok)
	}
	for _, n := range []int{-1, 3, math.MaxInt, math.MinInt} {
		if name, ok := table.Name(n); ok || name != "" {
			t.Errorf("Name(%d) = %q", n, name)
		}
	}
}

func TestNoRoom(t *testing.T) {
	var zero Table
	for _, table := range []*Table{New(0), New(-1), New(math.MinInt), &zero} {
		if n, e := table.Add("a"); n != 0 || e != api.ErrFull || table.Len() != 0 {
			t.Errorf("%d %d %d", n, e, table.Len())
		}
	}
}

func TestMuchRoom(t *testing.T) {
	table := New(math.MaxInt)
	for i := range 1000 {
		if n, e := table.Add("\xff" + strconv.Itoa(i)); n != i || e != api.OK {
			t.Fatalf("%d: %d %d", i, n, e)
		}
	}
}

func TestTablesAreApart(t *testing.T) {
	one, other := New(5), New(5)
	one.Add("a")
	if _, ok := other.Find("a"); ok || other.Len() != 0 {
		t.Error("a name of another table")
	}
}

func TestNil(t *testing.T) {
	var table *Table
	if n, e := table.Add("a"); n != 0 || e != api.ErrArg {
		t.Error("Add", n, e)
	}
	if n, ok := table.Find("a"); n != 0 || ok {
		t.Error("Find", n, ok)
	}
	if name, ok := table.Name(0); name != "" || ok {
		t.Error("Name", name, ok)
	}
	if table.Len() != 0 {
		t.Error("Len")
	}
}
