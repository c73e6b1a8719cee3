package bounds

import (
	"drumline/api"
	"drumline/ticks"
)

// ranged returns the number that f derives from c; 0 if c is not in range.
func ranged(c api.Config, f func(api.Config) int64) int64 {
	if checkRanges(c) != nil {
		return 0
	}
	return f(c)
}

// The functions below take a network that is in range: there no product is greater than 10^9, so none wraps round.

func edge(c api.Config) int64 {
	return millionths(2*int64(c.Drift)*int64(c.Cycle)) + 1
}

func near(c api.Config) int64 {
	return 2 * edge(c)
}

func slew(c api.Config) int64 {
	return millionths(int64(c.Drift) * int64(c.Cycle))
}

func step(c api.Config) int64 {
	return 2*near(c) + 2*slew(c) + 2
}

func jump(c api.Config) int64 {
	return 2*int64(c.Ages)*step(c) + 2*near(c)
}

func tick(c api.Config) int64 {
	return near(c) + edge(c) + millionths(near(c)*(int64(c.Rate)+int64(c.Drift))) + 1
}

// millionths returns n millionths, rounded up.
func millionths(n int64) int64 {
	q, _ := ticks.Ceil(n, api.Million)
	return q
}
