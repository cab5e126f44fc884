package field

import (
	"strings"

	"decorum/api"
	"decorum/ascii"
)

const (
	maxDigits = 15
	keySigns  = "_-.*"
	wordSigns = "_-.*!#$%&'+^|~:/"
)

// The types by which read values are told apart, besides int for a Number and bool for a Flag.
type (
	text string
	word string
)

// reader takes a text apart from its beginning.
type reader struct {
	rest string
}

// next returns the next byte, or a byte that begins nothing.
func (r *reader) next() byte {
	if r.rest == "" {
		return 0
	}
	return r.rest[0]
}

// skip removes a text that is next, and reports whether it was.
func (r *reader) skip(s string) bool {
	rest, ok := strings.CutPrefix(r.rest, s)
	r.rest = rest
	return ok
}

// take removes so many bytes and returns them.
func (r *reader) take(n int) string {
	s := r.rest[:n]
	r.rest = r.rest[n:]
	return s
}

// ended reports whether only spaces and tabs are left.
func (r *reader) ended() bool {
	r.rest = strings.TrimLeft(r.rest, " \t")
	return r.rest == ""
}

func (r *reader) comma() bool {
	ok := r.skip(",")
	r.rest = strings.TrimLeft(r.rest, " \t")
	return ok
}

func (r *reader) item() (api.Item, bool) {
	var i api.Item
	if r.next() == '"' {
		key, ok := r.text()
		if !ok {
			return i, false
		}
		i.Key, i.V = string(key.(text)), packed(true)
	} else {
		p, ok := r.pair()
		if !ok {
			return i, false
		}
		i.Key, i.V = p.Key, p.V
	}
	for r.skip(";") {
		r.rest = strings.TrimLeft(r.rest, " ")
		p, ok := r.pair()
		if !ok {
			return i, false
		}
		i.Params = append(i.Params, p)
	}
	return i, true
}

// pair reads a key and the value behind it, if there is one.
func (r *reader) pair() (api.Param, bool) {
	key, ok := r.key()
	if !ok {
		return api.Param{}, false
	}
	if !r.skip("=") {
		return api.Param{Key: key, V: packed(true)}, true
	}
	read := reading(r.next())
	v, ok := read(r)
	return api.Param{Key: key, V: packed(v)}, ok
}

func (r *reader) key() (string, bool) {
	lower := func(c byte) bool { return 'a' <= c && c <= 'z' }
	if c := r.next(); !lower(c) && c != '*' {
		return "", false
	}
	return r.take(span(r.rest, func(c byte) bool {
		return lower(c) || ascii.Digit(rune(c)) || strings.IndexByte(keySigns, c) >= 0
	})), true
}

// span counts the bytes that s begins with and that are fit.
func span(s string, fit func(c byte) bool) int {
	n := 0
	for n < len(s) && fit(s[n]) {
		n++
	}
	return n
}

// reading returns how a value is read that begins with c.
func reading(c byte) func(*reader) (any, bool) {
	switch {
	case c == '"':
		return (*reader).text
	case c == '?':
		return (*reader).flag
	case c == '-' || ascii.Digit(rune(c)):
		return (*reader).number
	}
	return (*reader).word
}

func (r *reader) text() (any, bool) {
	r.skip(`"`)
	var b []byte
	for r.rest != "" {
		c := r.take(1)[0]
		switch {
		case c == '"':
			return text(b), true
		case c == '\\':
			if r.next() != '"' && r.next() != '\\' {
				return nil, false
			}
			c = r.take(1)[0]
		case c < ' ' || c > '~':
			return nil, false
		}
		b = append(b, c)
	}
	return nil, false
}

func (r *reader) flag() (any, bool) {
	if r.skip("?1") {
		return true, true
	}
	return false, r.skip("?0")
}

func (r *reader) number() (any, bool) {
	negative := r.skip("-")
	digits := r.take(span(r.rest, func(c byte) bool { return ascii.Digit(rune(c)) }))
	if digits == "" || len(digits) > maxDigits {
		return nil, false
	}
	n := 0
	for _, c := range digits {
		n = 10*n + int(c-'0')
	}
	if negative {
		n = -n
	}
	return n, true
}

func (r *reader) word() (any, bool) {
	if c := r.next(); !ascii.Letter(rune(c)) && c != '*' {
		return nil, false
	}
	return word(r.take(span(r.rest, func(c byte) bool {
		return ascii.Letter(rune(c)) || ascii.Digit(rune(c)) || strings.IndexByte(wordSigns, c) >= 0
	}))), true
}

// packed returns a read value as a Value.
func packed(v any) api.Value {
	if n, ok := v.(int); ok {
		return api.Value{Kind: api.Number, N: n}
	}
	if s, ok := v.(text); ok {
		return api.Value{Kind: api.Text, S: string(s)}
	}
	if s, ok := v.(word); ok {
		return api.Value{Kind: api.Word, S: string(s)}
	}
	if on, ok := v.(bool); ok && on {
		return api.Value{Kind: api.Flag, N: 1}
	}
	return api.Value{Kind: api.Flag}
}
