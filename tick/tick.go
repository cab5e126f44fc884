// Package tick is arithmetic on times in milliseconds that stops at the ends of their range, and a token bucket.
package tick

import (
	"math/bits"

	"decorum/api"
)

// A token is this many thousandths; levels of a bucket are counted in them.
const token = 1000

func clamp(a int) int {
	return max(-api.MaxInt, min(a, api.MaxInt))
}

// Add returns the sum. Two clamped numbers can't overflow a word.
func Add(a, b int) int {
	return clamp(clamp(a) + clamp(b))
}

// Sub returns the difference.
func Sub(a, b int) int {
	return clamp(clamp(a) - clamp(b))
}

// Mul returns the product. It is computed in two words, because it may not fit in one.
func Mul(a, b int) int {
	a, b = clamp(a), clamp(b)
	high, low := bits.Mul64(size(a), size(b))
	product := api.MaxInt
	if high == 0 && low < api.MaxInt {
		product = int(low)
	}
	if (a < 0) != (b < 0) {
		return -product
	}
	return product
}

func size(a int) uint64 {
	if a < 0 {
		return uint64(-a)
	}
	return uint64(a)
}

// Shl returns a, doubled n times. More doublings than a word has bits change nothing any more.
func Shl(a, n int) int {
	a = clamp(a)
	for range min(n, bits.UintSize) {
		a = clamp(2 * a)
	}
	return a
}

// Clock returns the time after a reading, which never goes back.
func Clock(last, raw int) int {
	return max(last, min(raw, api.MaxMs))
}

// Fill returns the level of a bucket some time later.
func Fill(level, rate, burst, ms int) int {
	gained := Mul(max(rate, 0), max(ms, 0))
	return min(Add(max(level, 0), gained), Mul(token, max(burst, 0)))
}

// Take returns the level after a token was taken, if there was one.
func Take(level int) (int, bool) {
	if level < token {
		return level, false
	}
	return level - token, true
}

// Wait returns how long it takes until there is a token.
func Wait(level, rate int) int {
	if level >= token {
		return 0
	}
	if rate < 1 {
		return api.Never
	}
	missing := token - max(level, 0)
	// Rounded up in this way, since missing + rate could overflow.
	return (missing-1)/rate + 1
}
