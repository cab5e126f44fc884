package match

import (
	"strings"
	"testing"

	"decorum/api"
)

func TestMatch(t *testing.T) {
	for _, c := range []struct {
		pattern, path string
		want          bool
	}{
		{"", "", true}, {"", "/a", true}, {"/", "/a", true}, {"/a", "/a", true}, {"/a", "/ab", true}, {"/a", "/b", false}, {"/ab", "/a", false}, {"a", "/a", false}, {"/A", "/a", false},
		{"$", "", true}, {"$", "/", false}, {"/$", "/", true}, {"/$", "/a", false}, {"/a$", "/a", true}, {"/a$", "/ab", false}, {"/a$", "/a$", false}, {"/a$b", "/a$bc", true}, {"/a$b", "/a", false}, {"/a$$", "/a$", true}, {"/a$$", "/a", false}, {"/a$$", "/a$$", false},
		{"*", "", true}, {"*", "/a", true}, {"*$", "", true}, {"*$", "/a", true}, {"**$", "/a", true}, {"***", "", true},
		{"/*", "/", true}, {"/*", "", false}, {"/*.php", "/a.php", true}, {"/*.php", "/a.php5", true}, {"/*.php", "/.ph", false}, {"/*.php$", "/a.php", true}, {"/*.php$", "/a.php5", false}, {"/*.php$", "/a.php/b.php", true}, {"/*.php$", "/a.phpx.ph", false},
		{"/fish*", "/fish/heads", true}, {"*fish", "/a/fish/b", true}, {"*fish$", "/a/fish/b", false}, {"/fish*.php", "/fishheads/catfish.php?x=y", true},
		{"/a*a", "/a", false}, {"/a*a$", "/a", false}, {"/a*a$", "/aa", true}, {"/aa*aa$", "/aaa", false}, {"/aa*aa$", "/aaaa", true}, {"/a*b*c$", "/abcbc", true}, {"/a*b*c$", "/acb", false}, {"/a*bc*c$", "/abc", false}, {"/a*bc*bc$", "/abcbc", true}, {"/a*bc*bc$", "/abc", false}, {"/a**b", "/axb", true},
		{"/*a*a*a*a*b", "/" + strings.Repeat("a", 2000), false},
		{"/a%2f", "/a%2Fb", true}, {"/a/", "/a%2Fb", false}, {"/%61", "/a", true}, {"/a", "/%61", true}, {"/~", "/%7e", true}, {"/é", "/%c3%a9", true}, {"/%C3%A9", "/é", true}, {"/ x", "/%20x", true},
		{"/%2A", "/%2a", true}, {"/%2A", "/*", false}, {"/%2A", "/x", false}, {"/*", "/%2A", true}, {"/%24", "/%24", true}, {"/a%24", "/a", false}, {"/%24", "/$", false},
		{"/%", "/%", true}, {"/%4", "/%4x", true}, {"/%zz/%41", "/%zz/%41", true}, {"/%zz/%41", "/%zz/A", false}, {"/%$", "/%", true}, {"/%$", "/%a", false}, {"/%*b", "/%aXb", true}, {"/%*b", "/%41ab", false}, {"/%é*b", "/%é%41b", true},
		{"/\xff", "/%FF", true}, {"\xff*\xfe", "\xffab\xfe", true}, {"/a?b", "/a?bc", true}, {"/a?b", "/axb", false}, {"/.", "/x", false}, {"/[ab]", "/a", false},
	} {
		if got := Match(c.pattern, c.path); got != c.want {
			t.Errorf("Match(%q, %.50q) = %v", c.pattern, c.path, got)
		}
	}
}

// slow tries all that an asterisk may stand for.
func slow(pattern, path string) bool {
	if pattern == "" {
		return true
	}
	if pattern == "$" {
		return path == ""
	}
	if pattern[0] == '*' {
		return slow(pattern[1:], path) || path != "" && slow(pattern, path[1:])
	}
	return path != "" && path[0] == pattern[0] && slow(pattern[1:], path[1:])
}

func texts(letters string, most int) []string {
	all := []string{""}
	for begin := 0; len(all[begin]) < most; begin++ {
		for _, c := range letters {
			all = append(all, all[begin]+string(c))
		}
	}
	return all
}

func TestMatchTriesAll(t *testing.T) {
	paths := texts("ab", 6)
	for _, pattern := range texts("ab*", 5) {
		for _, ending := range []string{"", "$"} {
			for _, path := range paths {
				if got, want := Match(pattern+ending, path), slow(pattern+ending, path); got != want {
					t.Fatalf("Match(%q, %q) = %v", pattern+ending, path, got)
				}
			}
		}
	}
}

func allow(p string) api.Rule    { return api.Rule{Allow: true, Pattern: p} }
func disallow(p string) api.Rule { return api.Rule{Pattern: p} }

func TestAllowed(t *testing.T) {
	for i, c := range []struct {
		list []api.Rule
		path string
		want bool
	}{
		{nil, "/a", true},
		{[]api.Rule{disallow("/b")}, "/a", true},
		{[]api.Rule{disallow("/")}, "/a", false},
		{[]api.Rule{disallow("")}, "/a", false},
		{[]api.Rule{allow(""), disallow("")}, "/a", true},
		{[]api.Rule{disallow("/"), allow("/a")}, "/ab", true},
		{[]api.Rule{allow("/a"), disallow("/")}, "/ab", true},
		{[]api.Rule{allow("/"), disallow("/a")}, "/ab", false},
		{[]api.Rule{disallow("/a"), allow("/")}, "/ab", false},
		{[]api.Rule{disallow("/a"), allow("/a")}, "/a", true},
		{[]api.Rule{allow("/a"), disallow("/a")}, "/a", true},
		{[]api.Rule{allow("/a"), disallow("/*")}, "/a", true},
		{[]api.Rule{allow("/a"), disallow("/a$")}, "/a", false},
		{[]api.Rule{allow("/a"), disallow("/a$")}, "/ab", true},
		{[]api.Rule{allow("/page"), disallow("/*.htm")}, "/page.htm", false},
		{[]api.Rule{allow("/abcd"), disallow("/a")}, "/ab", false},
		{[]api.Rule{disallow("/%61%61%61"), allow("/aaa")}, "/aaaa", true},
		{[]api.Rule{disallow("/%61%61%61"), allow("/aaaa")}, "/aaaa", true},
		{[]api.Rule{allow("/%2f"), disallow("/***")}, "/%2F", true},
		{[]api.Rule{allow("/***"), disallow("/é")}, "/%C3%A9", false},
		{[]api.Rule{allow("/a"), allow("/ab"), disallow("/abc"), disallow("/b")}, "/abcd", false},
		{[]api.Rule{disallow("/abc"), allow("/xyz"), disallow("/ab"), allow("/abc")}, "/abcd", true},
		{[]api.Rule{disallow("/%"), allow("/")}, "/%", false},
		{[]api.Rule{disallow("/~")}, "/%7ex", false},
		{[]api.Rule{disallow("/a"), allow("/%20")}, "/ ", true},
		{[]api.Rule{disallow("/%20")}, "/ ", false},
		{[]api.Rule{disallow("/ab"), allow("/a"), allow("/")}, "/ab", false},
	} {
		if got := Allowed(c.list, c.path); got != c.want {
			t.Errorf("%d: Allowed(%v, %q) = %v", i, c.list, c.path, got)
		}
	}
}
