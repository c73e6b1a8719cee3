package bounds

import (
	"drumline/api"
	"drumline/plan"
)

// leastCycle is the length of the shortest cycle, in ticks.
const leastCycle = 1000

// check returns the first reason why c does not fit, wrapped with its number.
func check(c api.Config) error {
	if err := checkRanges(c); err != nil {
		return err
	}
	if err := checkTimes(c); err != nil {
		return err
	}
	return checkWaits(c)
}

// checkRanges returns the first reason why c is not in range: plan.Check's error, or one of the conditions 1 to 5.
func checkRanges(c api.Config) error {
	if e, at := plan.Check(c); e != api.OK {
		return &fault{&structure{e}, at}
	}
	switch {
	case outside(int64(c.Cycle), leastCycle, api.MaxCycle):
		return &fault{errRange, 1}
	case outside(int64(c.Drift), 0, api.MaxDrift):
		return &fault{errRange, 2}
	case outside(int64(c.Rate), 0, api.MaxRate):
		return &fault{errRange, 3}
	case outside(int64(c.Ages), 1, api.MaxAges):
		return &fault{errRange, 4}
	case outside(int64(c.Lost), 0, api.MaxLost):
		return &fault{errRange, 5}
	}
	return nil
}

// checkTimes returns the first of the conditions 6 to 10 that does not hold; c is in range. Each condition leans on those ahead of it, for without them its numbers might wrap round.
func checkTimes(c api.Config) error {
	window := int64(c.Window)
	switch {
	case outside(window, near(c)+edge(c), api.MaxWindow):
		return &fault{errRange, 6}
	case outside(int64(c.Slot), 2*window+1, api.MaxCycle):
		return &fault{errRange, 7}
	case outside(int64(c.Lead), window, api.MaxCycle):
		return &fault{errRange, 8}
	case longest(c) > int64(c.Cycle):
		return &fault{errRange, 9}
	case int64(c.Rate)*int64(c.Cycle) < jump(c)*api.Million:
		return &fault{errRange, 10}
	}
	return nil
}

// checkWaits returns the first of the conditions 11 to 15 that does not hold; c is in range. Here, too, each leans on those ahead of it.
func checkWaits(c api.Config) error {
	parts, turn := int64(len(c.Parts)), int64(c.Lost)+1
	listen, span := int64(c.Listen), int64(c.Span)
	least := parts*turn + 2
	switch {
	case int64(c.Ages) < (parts-1)*turn+1:
		return &fault{errRange, 11}
	case outside(listen, least, api.MaxWait):
		return &fault{errRange, 12}
	case outside(span, least, api.MaxWait):
		return &fault{errRange, 13}
	case listen+parts*span > api.MaxWait:
		return &fault{errRange, 14}
	case outside(int64(c.Room), parts+2, api.MaxRoom):
		return &fault{errRange, 15}
	}
	return nil
}

// outside reports whether v is not in the range least to most.
func outside(v, least, most int64) bool {
	return v < least || v > most
}

// longest returns how many ticks of a cycle the part with the most slots needs.
func longest(c api.Config) int64 {
	slots := 0
	for i, p := range c.Parts {
		slots = max(slots, 3*len(plan.Ports(c, i))+p.Nodes)
	}
	return int64(c.Lead) + int64(slots)*int64(c.Slot) + int64(c.Window)
}
