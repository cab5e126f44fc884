package ascii

import "testing"

func TestLetterAndDigit(t *testing.T) {
	for c := rune(0); c < 0x300; c++ {
		letter := c >= 'a' && c <= 'z' || c >= 'A' && c <= 'Z'
		if Letter(c) != letter {
			t.Errorf("Letter(%q)", c)
		}
		if Digit(c) != (c >= '0' && c <= '9') {
			t.Errorf("Digit(%q)", c)
		}
	}
}

func TestLower(t *testing.T) {
	for s, want := range map[string]string{
		"": "", "aZ@[`{09": "az@[`{09", "ABCXYZ": "abcxyz",
		"É\u212a\u017f": "É\u212a\u017f", "A\xffB\xc3": "a\xffb\xc3",
	} {
		if got := Lower(s); got != want {
			t.Errorf("Lower(%q) = %q", s, got)
		}
	}
}
