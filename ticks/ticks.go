// Package ticks is layer 1, the arithmetic of ticks: see the document's chapter 1.
package ticks

import (
	"math"

	"drumline/api"
)

// Floor returns a / b, rounded down; false if b is less than 1.
func Floor(a, b int64) (int64, bool) {
	if b < 1 {
		return 0, false
	}
	q := a / b
	// The language rounds toward 0, which is up where a is negative. A remainder means that b is at least 2, so q is far from the least int64.
	if a%b < 0 {
		q--
	}
	return q, true
}

// Ceil returns a / b, rounded up; false if b is less than 1.
func Ceil(a, b int64) (int64, bool) {
	if b < 1 {
		return 0, false
	}
	q := a / b
	// The language rounds toward 0, which is down where a is positive.
	if a%b > 0 {
		q++
	}
	return q, true
}

// Scale returns ppm millionths of x, rounded down; false if one of them is out of its range.
func Scale(x int64, ppm int) (int64, bool) {
	if x < -api.MaxTicks || x > api.MaxTicks || ppm < -api.Million || ppm > api.Million {
		return 0, false
	}
	// Within these ranges the product is below 2^60.
	return Floor(x*int64(ppm), api.Million)
}

// Clamp returns the number nearest to v in the range -most to most.
func Clamp(v, most int64) int64 {
	// A most that is not negative can be negated without wrapping round.
	most = max(most, 0)
	return min(max(v, -most), most)
}

// Add returns a + b, or the nearest int64.
func Add(a, b int64) int64 {
	if b > 0 && a > math.MaxInt64-b {
		return math.MaxInt64
	}
	if b < 0 && a < math.MinInt64-b {
		return math.MinInt64
	}
	return a + b
}
