package url

import (
	"strings"
	"testing"

	"decorum/api"
)

func TestParse(t *testing.T) {
	for _, c := range []struct {
		s    string
		want api.URL
		text string
	}{
		{"http://a", api.URL{Scheme: "http", Host: "a", Port: 80, Path: "/"}, "http://a/"},
		{"HTTPS://ExAmPle.COM/Ab", api.URL{Scheme: "https", Host: "example.com", Port: 443, Path: "/Ab"}, "https://example.com/Ab"},
		{"http://a:80/", api.URL{Scheme: "http", Host: "a", Port: 80, Path: "/"}, "http://a/"},
		{"http://a:443/", api.URL{Scheme: "http", Host: "a", Port: 443, Path: "/"}, "http://a:443/"},
		{"https://a:443", api.URL{Scheme: "https", Host: "a", Port: 443, Path: "/"}, "https://a/"},
		{"https://a:80", api.URL{Scheme: "https", Host: "a", Port: 80, Path: "/"}, "https://a:80/"},
		{"http://a:65535", api.URL{Scheme: "http", Host: "a", Port: 65535, Path: "/"}, "http://a:65535/"},
		{"http://a:1", api.URL{Scheme: "http", Host: "a", Port: 1, Path: "/"}, "http://a:1/"},
		{"http://a?", api.URL{Scheme: "http", Host: "a", Port: 80, Path: "/", Asked: true}, "http://a/?"},
		{"http://a?b?c=%7e#d", api.URL{Scheme: "http", Host: "a", Port: 80, Path: "/", Query: "b?c=~", Asked: true}, "http://a/?b?c=~"},
		{"http://a#b?c", api.URL{Scheme: "http", Host: "a", Port: 80, Path: "/"}, "http://a/"},
		{"http://a#%", api.URL{Scheme: "http", Host: "a", Port: 80, Path: "/"}, "http://a/"},
		{"http://a/b#c", api.URL{Scheme: "http", Host: "a", Port: 80, Path: "/b"}, "http://a/b"},
		{"http://a/b/../c/./%2e%2E/d e", api.URL{Scheme: "http", Host: "a", Port: 80, Path: "/d%20e"}, "http://a/d%20e"},
		{"http://a/%2f/..", api.URL{Scheme: "http", Host: "a", Port: 80, Path: "/"}, "http://a/"},
		{"http://a/x?../y", api.URL{Scheme: "http", Host: "a", Port: 80, Path: "/x", Query: "../y", Asked: true}, "http://a/x?../y"},
		{"http://a-b.1.c--d/\xff", api.URL{Scheme: "http", Host: "a-b.1.c--d", Port: 80, Path: "/%FF"}, "http://a-b.1.c--d/%FF"},
		{"http://a/:8/@", api.URL{Scheme: "http", Host: "a", Port: 80, Path: "/:8/@"}, "http://a/:8/@"},
		{"http://a//b", api.URL{Scheme: "http", Host: "a", Port: 80, Path: "//b"}, "http://a//b"},
		{"http://127.0.0.1:8080/x", api.URL{Scheme: "http", Host: "127.0.0.1", Port: 8080, Path: "/x"}, "http://127.0.0.1:8080/x"},
	} {
		got, e := Parse(c.s)
		if e != api.OK || got != c.want {
			t.Errorf("Parse(%q) = %+v %d, not %+v", c.s, got, e, c.want)
		}
		if text := String(got); text != c.text {
			t.Errorf("String of %q is %q, not %q", c.s, text, c.text)
		}
		if again, e := Parse(c.text); e != api.OK || again != c.want {
			t.Errorf("Parse(%q) = %+v %d, once more", c.text, again, e)
		}
	}
}

func TestParseErrors(t *testing.T) {
	long := strings.Repeat("a", api.MaxURL)
	label := strings.Repeat("a", api.MaxLabel)
	for _, c := range []struct {
		s    string
		want api.Errno
	}{
		{"", api.ErrForm}, {"a", api.ErrForm}, {"http:/a", api.ErrForm}, {"ftp://a", api.ErrForm}, {"http//a", api.ErrForm}, {" http://a", api.ErrForm}, {"://a", api.ErrForm}, {"http", api.ErrForm},
		{"http\u017f://a", api.ErrForm}, {"xhttp://a", api.ErrForm}, {"httpx://a", api.ErrForm},
		{long + "a", api.ErrOver}, {"http://a/" + long, api.ErrOver}, {"http://" + long, api.ErrOver},
		{"http://", api.ErrHost}, {"http:///x", api.ErrHost}, {"http://?x", api.ErrHost}, {"http://#", api.ErrHost}, {"http://.", api.ErrHost}, {"http://a.", api.ErrHost}, {"http://.a", api.ErrHost}, {"http://a..b", api.ErrHost},
		{"http://-a", api.ErrHost}, {"http://a-", api.ErrHost}, {"http://a.-b", api.ErrHost}, {"http://a-.b", api.ErrHost}, {"http://-", api.ErrHost},
		{"http://a_b", api.ErrHost}, {"http://a b", api.ErrHost}, {"http://u@a", api.ErrHost}, {"http://é", api.ErrHost}, {"http://\u212a", api.ErrHost}, {"http://\xff", api.ErrHost}, {"http://%61", api.ErrHost}, {"http://[::1]", api.ErrHost},
		{"http://a:", api.ErrHost}, {"http://a:0", api.ErrHost}, {"http://a:080", api.ErrHost}, {"http://a:65536", api.ErrHost}, {"http://a:+1", api.ErrHost}, {"http://a:-1", api.ErrHost}, {"http://a:1a", api.ErrHost}, {"http://a:8:8", api.ErrHost},
		{"http://a:99999999999999999999999", api.ErrHost}, {"http://:80", api.ErrHost}, {"http://a:\u0661", api.ErrHost},
		{"http://" + label + "a", api.ErrHost}, {"http://a." + label + "a/", api.ErrHost}, {"http://" + label + "." + strings.Repeat("b", 37), api.ErrHost},
		{"http://a/%", api.ErrForm}, {"http://a/%4", api.ErrForm}, {"http://a?%zz", api.ErrForm}, {"http://a/%?%", api.ErrForm}, {"http://a_/%", api.ErrHost},
	} {
		if got, e := Parse(c.s); e != c.want || got != (api.URL{}) {
			t.Errorf("Parse(%q) = %+v %d, not %d", c.s, got, e, c.want)
		}
	}
}

func TestParseLimits(t *testing.T) {
	label := strings.Repeat("a", api.MaxLabel)
	for _, name := range []string{label, label + "." + strings.Repeat("b", 36), "a." + label, label + ".c"} {
		if got, e := Parse("http://" + name + "/"); e != api.OK || got.Host != name {
			t.Errorf("%s: %d", name, e)
		}
	}
	s := "http://a/" + strings.Repeat("b", api.MaxURL-9)
	if got, e := Parse(s); e != api.OK || String(got) != s {
		t.Errorf("a URL of %d bytes: %d", len(s), e)
	}
	if _, e := Parse(s + "b"); e != api.ErrOver {
		t.Errorf("a URL of %d bytes: %d", len(s)+1, e)
	}
}

func TestKeyAndTarget(t *testing.T) {
	for _, c := range []struct {
		u           api.URL
		key, target string
	}{
		{api.URL{}, "://:0", ""},
		{api.URL{Scheme: "ftp", Host: "a", Port: 80, Path: "x"}, "ftp://a", "x"},
		{api.URL{Scheme: "ftp", Host: "a", Port: 443, Query: "q"}, "ftp://a:443", ""},
		{api.URL{Scheme: "https", Host: "a", Port: 443, Path: "/x", Query: "q", Asked: true}, "https://a", "/x?q"},
		{api.URL{Scheme: "https", Host: "a", Port: -1 << 63, Path: "/x", Asked: true}, "https://a:-9223372036854775808", "/x?"},
	} {
		if Key(c.u) != c.key || Target(c.u) != c.target || String(c.u) != c.key+c.target {
			t.Errorf("%+v: %s %s %s", c.u, Key(c.u), Target(c.u), String(c.u))
		}
	}
}

func TestClean(t *testing.T) {
	for path, want := range map[string]string{
		"": "/", "/": "/", "a": "/a", "/a": "/a", "/a/": "/a/", "//": "//", "//a": "//a", "/a//b": "/a//b",
		".": "/", "..": "/", "/.": "/", "/..": "/", "./": "/", "../": "/", "/./": "/", "/../": "/", "./a": "/a", "../a": "/a", "/./a": "/a", "/../a": "/a",
		"/a/.": "/a/", "/a/..": "/", "/a/./": "/a/", "/a/../": "/", "/a/b/..": "/a/", "/a/b/.": "/a/b/", "/a/b/../c": "/a/c", "/a/b/../../c": "/c", "/a/../../b": "/b", "/../../b": "/b",
		"a/..": "/", "a/../b": "/b", "a/b/../c": "/a/c", "/a//../b": "/a/b", "//..": "/", "//../a": "/a", "/..//a": "//a", "..//a": "//a", ".//a": "/a", "./.": "/", "../..": "/", "/.a/..b/...": "/.a/..b/...", "/a/.../b": "/a/.../b",
		"/a/b/c/./../../g": "/a/g", "mid/content=5/../6": "/mid/6", "/a/\xff/..": "/a/",
	} {
		if got := Clean(path); got != want {
			t.Errorf("Clean(%q) = %q, not %q", path, got, want)
		}
	}
}
