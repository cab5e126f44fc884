package pct

import (
	"strings"
	"testing"
)

const (
	plain   = "ABCDEFGHIJKLMNOPQRSTUVWXYZabcdefghijklmnopqrstuvwxyz0123456789-._~"
	kept    = "!$&'()*+,;=:@/?[]"
	capital = "0123456789ABCDEF"
)

func triple(b byte) string { return "%" + string(capital[b>>4]) + string(capital[b&15]) }

func TestNormEveryByte(t *testing.T) {
	for i := range 256 {
		b := byte(i)
		s := string([]byte{b})
		want := triple(b)
		if strings.Contains(plain, s) || strings.Contains(kept, s) {
			want = s
		}
		if got, ok := Norm("x" + s + "y"); b != '%' && (!ok || got != "x"+want+"y") {
			t.Errorf("Norm of byte %02x: %q %v", b, got, ok)
		}
	}
}

func TestNormEveryTriple(t *testing.T) {
	for i := range 256 {
		b := byte(i)
		want := triple(b)
		if strings.Contains(plain, string([]byte{b})) {
			want = string([]byte{b})
		}
		for _, s := range []string{triple(b), strings.ToLower(triple(b))} {
			if got, ok := Norm("x" + s + "y"); !ok || got != "x"+want+"y" {
				t.Errorf("Norm(%s) = %q %v", s, got, ok)
			}
			if got, ok := Decode("x" + s + "y"); !ok || got != "x"+string([]byte{b})+"y" {
				t.Errorf("Decode(%s) = %q %v", s, got, ok)
			}
		}
	}
}

func TestTexts(t *testing.T) {
	for _, c := range []struct{ s, norm, decoded string }{
		{"", "", ""},
		{"/a b", "/a%20b", "/a b"},
		{"%2541", "%2541", "%41"},
		{"%25%34%31", "%2541", "%41"},
		{"%7e%7E~", "~~~", "~~~"},
		{"%2f%2F/", "%2F%2F/", "///"},
		{"%aB%Ab", "%AB%AB", "\xab\xab"},
		{"é", "%C3%A9", "é"},
		{"%c3%a9", "%C3%A9", "é"},
		{"€%41", "%E2%82%ACA", "€A"},
		{"\xff\xfe%41\xc3", "%FF%FEA%C3", "\xff\xfeA\xc3"},
		{"\ufffd", "%EF%BF%BD", "\ufffd"},
		{"\xc3%41\xa9", "%C3A%A9", "\xc3A\xa9"},
		{"#\"<>\\^`{|}", "%23%22%3C%3E%5C%5E%60%7B%7C%7D", "#\"<>\\^`{|}"},
		{"%00\x00", "%00%00", "\x00\x00"},
		{"\x7f\x80", "%7F%80", "\x7f\x80"},
		{"+", "+", "+"},
	} {
		if got, ok := Norm(c.s); !ok || got != c.norm {
			t.Errorf("Norm(%q) = %q %v, not %q", c.s, got, ok, c.norm)
		}
		if got, ok := Norm(c.norm); !ok || got != c.norm {
			t.Errorf("Norm(%q) = %q %v, once more", c.norm, got, ok)
		}
		if got, ok := Decode(c.s); !ok || got != c.decoded {
			t.Errorf("Decode(%q) = %q %v, not %q", c.s, got, ok, c.decoded)
		}
	}
}

func TestNoTriple(t *testing.T) {
	for _, s := range []string{"%", "%4", "a%", "a%4", "%4g", "%g4", "%%41", "%41%", "%-1", "% 41", "%\xff\xff", "%4é", "%é", "%x41", "%41%4", "% "} {
		if got, ok := Norm(s); ok || got != "" {
			t.Errorf("Norm(%q) = %q %v", s, got, ok)
		}
		if got, ok := Decode(s); ok || got != "" {
			t.Errorf("Decode(%q) = %q %v", s, got, ok)
		}
	}
}
