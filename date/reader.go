package date

import "strings"

// reader takes a text apart from its beginning. Once something is not as it should be, it stays failed.
type reader struct {
	rest   string
	failed bool
}

// done reports whether all was read, and all was right.
func (r *reader) done() bool {
	return !r.failed && r.rest == ""
}

func (r *reader) fail() int {
	r.failed = true
	return 0
}

// skip removes a text that is next, and reports whether it was.
func (r *reader) skip(text string) bool {
	rest, ok := strings.CutPrefix(r.rest, text)
	r.rest = rest
	return ok
}

// mark reads a text that must be next.
func (r *reader) mark(text string) {
	if !r.skip(text) {
		r.fail()
	}
}

// number reads a number with exactly so many digits.
func (r *reader) number(width int) int {
	if len(r.rest) < width {
		return r.fail()
	}
	digits := r.rest[:width]
	r.rest = r.rest[width:]
	n := 0
	for _, c := range digits {
		if c < '0' || c > '9' {
			return r.fail()
		}
		n = 10*n + int(c-'0')
	}
	return n
}

// spacedDay reads a day of the month that has a space instead of a leading 0.
func (r *reader) spacedDay() int {
	if r.skip(" ") {
		return r.number(1)
	}
	day := r.number(2)
	if day < 10 {
		return r.fail()
	}
	return day
}

// clock reads a time of day.
func (r *reader) clock() (hour, minute, second int) {
	hour = r.number(2)
	r.mark(":")
	minute = r.number(2)
	r.mark(":")
	second = r.number(2)
	if hour > 23 || minute > 59 || second > 59 {
		r.fail()
	}
	return hour, minute, second
}

func (r *reader) shortDay() int {
	for i, name := range dayNames {
		if r.skip(name[:short]) {
			return i
		}
	}
	return r.fail()
}

func (r *reader) fullDay() int {
	for i, name := range dayNames {
		if r.skip(name) {
			return i
		}
	}
	return r.fail()
}

func (r *reader) month() int {
	for i, name := range monthNames {
		if r.skip(name) {
			return i + 1
		}
	}
	return r.fail()
}
