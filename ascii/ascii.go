// Package ascii knows the letters and digits of ASCII. The library's functions know many more letters, and replace bytes that are no runes.
package ascii

// Letter reports whether c is a letter.
func Letter(c rune) bool {
	return 'a' <= c && c <= 'z' || 'A' <= c && c <= 'Z'
}

// Digit reports whether c is a decimal digit.
func Digit(c rune) bool {
	return '0' <= c && c <= '9'
}

// Lower returns s with upper-case letters converted to lower case, and all other bytes unchanged.
func Lower(s string) string {
	b := []byte(s)
	for i, c := range b {
		if 'A' <= c && c <= 'Z' {
			b[i] = c - 'A' + 'a'
		}
	}
	return string(b)
}
