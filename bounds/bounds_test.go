package bounds_test

import (
	"math"
	"math/big"
	"slices"
	"testing"

	"drumline/api"
	"drumline/bounds"
	"drumline/plan"
)

// two returns a network of two parts that fits: Edge 5, Near 10, Slew 2, Step 26, Jump 332, Tick 17.
func two() api.Config {
	return api.Config{
		Parts: []api.Part{{Nodes: 4, Faults: 1}, {Nodes: 4, Faults: 1}},
		Links: []api.Link{{A: 0, B: 1, PortsA: [2]int{0, 1}, PortsB: [2]int{2, 3}}},
		Cycle: 20000, Lead: 30, Slot: 50, Window: 20, Drift: 100, Rate: 20000, Ages: 6, Lost: 1, Listen: 6, Span: 6, Room: 4,
	}
}

// one returns the smallest network that fits: all its numbers are the least ones, but Rate, which Jump asks for.
func one() api.Config {
	return api.Config{
		Parts: []api.Part{{Nodes: 1}},
		Cycle: 1000, Lead: 3, Slot: 7, Window: 3, Rate: 16000, Ages: 1, Listen: 3, Span: 3, Room: 3,
	}
}

// uneven returns a network of three parts that have 4, 2 and 2 ports, and 5, 12 and 4 nodes: they need 17, 18 and 10 slots.
func uneven() api.Config {
	c := two()
	c.Parts = []api.Part{{Nodes: 5, Faults: 1}, {Nodes: 12, Faults: 3}, {Nodes: 4, Faults: 0}}
	c.Links = []api.Link{
		{A: 0, B: 1, PortsA: [2]int{0, 1}, PortsB: [2]int{11, 3}},
		{A: 0, B: 2, PortsA: [2]int{4, 2}, PortsB: [2]int{0, 3}},
	}
	c.Listen, c.Span, c.Room = 8, 9, 5
	return c
}

// row returns as many parts as may be in a row, with numbers that fit.
func row() api.Config {
	c := two()
	c.Parts, c.Links = nil, nil
	for i := range api.MaxParts {
		c.Parts = append(c.Parts, api.Part{Nodes: 4, Faults: 1})
		if i > 0 {
			c.Links = append(c.Links, api.Link{A: i - 1, B: i, PortsA: [2]int{3, 1}, PortsB: [2]int{0, 2}})
		}
	}
	c.Ages, c.Lost, c.Rate, c.Listen, c.Span, c.Room = 11, 1, 40000, 14, 15, 8
	return c
}

// copyOf returns a network that shares no list with c.
func copyOf(c api.Config) api.Config {
	c.Parts, c.Links = slices.Clone(c.Parts), slices.Clone(c.Links)
	return c
}

// sum and product work with numbers of any size, so that nothing wraps round.
func sum(l ...*big.Int) *big.Int {
	s := new(big.Int)
	for _, n := range l {
		s.Add(s, n)
	}
	return s
}

func product(l ...*big.Int) *big.Int {
	p := big.NewInt(1)
	for _, n := range l {
		p.Mul(p, n)
	}
	return p
}

func num(n int) *big.Int { return big.NewInt(int64(n)) }

// ceil returns n millionths, rounded up: the quotient of numbers of any size is rounded down, so one more for each that is not whole.
func ceil(n *big.Int) *big.Int {
	q, m := new(big.Int).DivMod(n, num(api.Million), new(big.Int))
	if m.Sign() != 0 {
		q.Add(q, num(1))
	}
	return q
}

// derived are the numbers of Edge to Tick.
type derived struct{ edge, near, slew, step, jump, tick *big.Int }

// derive writes the chapter's formulas out, for a network that may be out of range, too.
func derive(c api.Config) derived {
	var d derived
	cycle, drift, rate := num(c.Cycle), num(c.Drift), num(c.Rate)
	d.edge = sum(ceil(product(num(2), drift, cycle)), num(1))
	d.near = sum(d.edge, d.edge)
	d.slew = ceil(product(drift, cycle))
	d.step = sum(d.near, d.near, d.slew, d.slew, num(2))
	d.jump = sum(product(num(2), num(c.Ages), d.step), d.near, d.near)
	d.tick = sum(d.near, d.edge, ceil(product(d.near, sum(rate, drift))), num(1))
	return d
}

// between reports whether n is in the range least to most.
func between(n int, least *big.Int, most int) bool {
	return num(n).Cmp(least) >= 0 && n <= most
}

// conditions tells of each of the fifteen conditions whether it holds, whatever the others do.
func conditions(c api.Config) [15]bool {
	d := derive(c)
	parts, turn := num(len(c.Parts)), sum(num(c.Lost), num(1))
	window := num(c.Window)
	least := sum(product(parts, turn), num(2))
	room := true
	for i, p := range c.Parts {
		ports := 0
		for _, l := range c.Links {
			if l.A == i || l.B == i {
				ports += 2
			}
		}
		need := sum(num(c.Lead), product(num(3*ports+p.Nodes), num(c.Slot)), window)
		room = room && need.Cmp(num(c.Cycle)) <= 0
	}
	return [15]bool{
		between(c.Cycle, num(1000), 1000000),
		between(c.Drift, num(0), 500),
		between(c.Rate, num(0), 400000),
		between(c.Ages, num(1), 200),
		between(c.Lost, num(0), 20),
		between(c.Window, sum(d.near, d.edge), 20000),
		between(c.Slot, sum(window, window, num(1)), 1000000),
		between(c.Lead, window, 1000000),
		room,
		product(num(c.Rate), num(c.Cycle)).Cmp(product(d.jump, num(1000000))) >= 0,
		num(c.Ages).Cmp(sum(product(num(len(c.Parts)-1), turn), num(1))) >= 0,
		between(c.Listen, least, 60000),
		between(c.Span, least, 60000),
		sum(num(c.Listen), product(parts, num(c.Span))).Cmp(num(60000)) <= 0,
		between(c.Room, num(len(c.Parts)+2), 64),
	}
}

// agrees holds all answers about c against those that are worked out by another way, and returns what Fits must answer.
func agrees(t *testing.T, c api.Config) (api.Errno, int) {
	t.Helper()
	e, at := plan.Check(c)
	inRange := e == api.OK
	if inRange {
		holds := conditions(c)
		if i := slices.Index(holds[:], false); i >= 0 {
			e, at = api.ErrRange, i+1
			inRange = i >= 5
		}
	}
	if ge, gat := bounds.Fits(c); ge != e || gat != at {
		t.Errorf("P703: Fits of %+v: %d, %d; not %d, %d", c, ge, gat, e, at)
	}
	agreesDerived(t, c, inRange)
	for _, part := range []int{math.MinInt, -2, -1, 0, 1, 2, 3, 4, 5, 6, 7, math.MaxInt} {
		want := 0
		if e == api.OK && part >= 0 && part < len(c.Parts) {
			want = c.Listen
			for range part {
				want += c.Span
			}
		}
		if got := bounds.First(c, part); got != want {
			t.Errorf("P702: First of part %d of %+v: %d; not %d", part, c, got, want)
		}
	}
	return e, at
}

// agreesDerived holds the derived numbers of c against the formulas, or against 0 if c is not in range.
func agreesDerived(t *testing.T, c api.Config, inRange bool) {
	t.Helper()
	var want [6]int64
	gone := 0
	if inRange {
		d := derive(c)
		want = [6]int64{d.edge.Int64(), d.near.Int64(), d.slew.Int64(), d.step.Int64(), d.jump.Int64(), d.tick.Int64()}
		gone = c.Ages + 1
	}
	if got := all(c); got != want {
		t.Errorf("P701: Edge, Near, Slew, Step, Jump and Tick of %+v: %v; not %v", c, got, want)
	}
	if got := bounds.Gone(c); got != gone {
		t.Errorf("P701: Gone of %+v: %d; not %d", c, got, gone)
	}
}

// all returns Edge, Near, Slew, Step, Jump and Tick.
func all(c api.Config) [6]int64 {
	return [6]int64{bounds.Edge(c), bounds.Near(c), bounds.Slew(c), bounds.Step(c), bounds.Jump(c), bounds.Tick(c)}
}

func TestExamples(t *testing.T) {
	c := two()
	if got := all(c); got != [6]int64{5, 10, 2, 26, 332, 17} {
		t.Errorf("P701: Edge, Near, Slew, Step, Jump and Tick: %v", got)
	}
	if got := bounds.Gone(c); got != 7 {
		t.Errorf("P701: Gone: %d", got)
	}
	if got := bounds.First(c, 1); got != 12 {
		t.Errorf("P702: First of part 1: %d", got)
	}
	if e, at := bounds.Fits(c); e != api.OK || at != 0 {
		t.Errorf("P703: Fits: %d, %d", e, at)
	}
	c.Cycle = 999
	if e, at := bounds.Fits(c); e != api.ErrRange || at != 1 {
		t.Errorf("P703: Fits of the Cycle 999: %d, %d", e, at)
	}
}

func TestNetworksThatFit(t *testing.T) {
	for _, c := range []api.Config{one(), two(), uneven(), row()} {
		if e, at := agrees(t, c); e != api.OK || at != 0 {
			t.Errorf("a network that should fit does not: %d, %d: %+v", e, at, c)
		}
	}
}

func TestDerived(t *testing.T) {
	for _, x := range []struct {
		cycle, drift, rate, ages int
		want                     [6]int64
	}{
		{1000, 0, 0, 1, [6]int64{1, 2, 0, 6, 16, 4}},
		{1000, 0, 0, 200, [6]int64{1, 2, 0, 6, 2404, 4}},
		{1000, 0, 400000, 1, [6]int64{1, 2, 0, 6, 16, 5}},
		{1000, 1, 0, 1, [6]int64{2, 4, 1, 12, 32, 8}},
		{1000, 500, 0, 1, [6]int64{2, 4, 1, 12, 32, 8}},
		{1001, 500, 0, 1, [6]int64{3, 6, 1, 16, 44, 11}},
		{1000000, 0, 400000, 200, [6]int64{1, 2, 0, 6, 2404, 5}},
		{1000000, 1, 0, 1, [6]int64{3, 6, 1, 16, 44, 11}},
		{1000000, 500, 0, 1, [6]int64{1001, 2002, 500, 5006, 14016, 3006}},
		{1000000, 500, 400000, 200, [6]int64{1001, 2002, 500, 5006, 2006404, 3806}},
		{20000, 100, 99900, 6, [6]int64{5, 10, 2, 26, 332, 17}},
		{20000, 100, 99901, 6, [6]int64{5, 10, 2, 26, 332, 18}},
		{20000, 100, 100000, 6, [6]int64{5, 10, 2, 26, 332, 18}},
	} {
		c := two()
		c.Cycle, c.Drift, c.Rate, c.Ages = x.cycle, x.drift, x.rate, x.ages
		if got := all(c); got != x.want {
			t.Errorf("P701: Edge, Near, Slew, Step, Jump and Tick of Cycle %d, Drift %d, Rate %d, Ages %d: %v; not %v", x.cycle, x.drift, x.rate, x.ages, got, x.want)
		}
		if got := bounds.Gone(c); got != x.ages+1 {
			t.Errorf("P701: Gone of Ages %d: %d", x.ages, got)
		}
		agrees(t, c)
	}
}

// A network that is in range has its derived numbers, though it may not fit; it has no First then.
func TestInRangeWithoutFitting(t *testing.T) {
	for _, n := range []int{math.MinInt, -1, 0, math.MaxInt} {
		c := two()
		c.Lead, c.Slot, c.Window, c.Listen, c.Span, c.Room = n, n, n, n, n, n
		if got := all(c); got != [6]int64{5, 10, 2, 26, 332, 17} {
			t.Errorf("P701: of a network in range that does not fit: %v", got)
		}
		if got := bounds.Gone(c); got != 7 {
			t.Errorf("P701: Gone of a network in range that does not fit: %d", got)
		}
		if got := bounds.First(c, 1); got != 0 {
			t.Errorf("P702: First of a network that does not fit: %d", got)
		}
		if e, at := agrees(t, c); e != api.ErrRange || at != 6 {
			t.Errorf("P703: Fits of wild numbers in range: %d, %d", e, at)
		}
	}
}

func TestFirst(t *testing.T) {
	for part, want := range []int{14, 29, 44, 59, 74, 89} {
		if got := bounds.First(row(), part); got != want {
			t.Errorf("P702: First of part %d in a row: %d", part, got)
		}
	}
	for _, part := range []int{math.MinInt, -1, 6, 7, math.MaxInt} {
		if got := bounds.First(row(), part); got != 0 {
			t.Errorf("P702: First of part %d, which does not exist: %d", part, got)
		}
	}
	for _, c := range []api.Config{one(), two(), uneven()} {
		if got := bounds.First(c, len(c.Parts)); got != 0 {
			t.Errorf("P702: First of a part that does not exist: %d", got)
		}
	}
	c := row()
	c.Room = 7
	if got := bounds.First(c, 1); got != 0 {
		t.Errorf("P702: First of a network that does not fit: %d", got)
	}
	c = row()
	c.Links = c.Links[1:]
	if got := bounds.First(c, 1); got != 0 {
		t.Errorf("P702: First of a network with a part apart: %d", got)
	}
}

// change is what is changed of a network, and the number that Fits must answer then.
type change struct {
	what string
	bend func(c *api.Config)
	at   int
}

// holdsEach checks what Fits answers about a network after each of the changes.
func holdsEach(t *testing.T, base api.Config, changes []change) {
	t.Helper()
	for _, x := range changes {
		c := copyOf(base)
		x.bend(&c)
		e := api.OK
		if x.at > 0 {
			e = api.ErrRange
		}
		if ge, gat := bounds.Fits(c); ge != e || gat != x.at {
			t.Errorf("P703: Fits with %s: %d, %d; not %d, %d", x.what, ge, gat, e, x.at)
		}
		agrees(t, c)
	}
}

func TestRanges(t *testing.T) {
	holdsEach(t, two(), []change{
		{"the Cycle 999", func(c *api.Config) { c.Cycle = 999 }, 1},
		{"the Cycle 0", func(c *api.Config) { c.Cycle = 0 }, 1},
		{"the least Cycle of all", func(c *api.Config) { c.Cycle = math.MinInt }, 1},
		{"the Cycle 1000001", func(c *api.Config) { c.Cycle = 1000001 }, 1},
		{"the greatest Cycle of all", func(c *api.Config) { c.Cycle = math.MaxInt }, 1},
		{"the Cycle 1000000", func(c *api.Config) { c.Cycle, c.Drift = 1000000, 0 }, 0},
		{"the Drift -1", func(c *api.Config) { c.Drift = -1 }, 2},
		{"the Drift 501", func(c *api.Config) { c.Drift = 501 }, 2},
		{"the Drift 500", func(c *api.Config) { c.Drift, c.Window, c.Slot, c.Lead, c.Rate = 500, 63, 127, 63, 75200 }, 0},
		{"the Drift 0", func(c *api.Config) { c.Drift = 0 }, 0},
		{"the Rate -1", func(c *api.Config) { c.Rate = -1 }, 3},
		{"the Rate 400001", func(c *api.Config) { c.Rate = 400001 }, 3},
		{"the Rate 400000", func(c *api.Config) { c.Rate = 400000 }, 0},
		{"the Rate 0", func(c *api.Config) { c.Rate = 0 }, 10},
		{"the Ages 0", func(c *api.Config) { c.Ages = 0 }, 4},
		{"the Ages -1", func(c *api.Config) { c.Ages = -1 }, 4},
		{"the Ages 201", func(c *api.Config) { c.Ages = 201 }, 4},
		{"the Ages 200", func(c *api.Config) { c.Drift, c.Ages, c.Rate = 0, 200, 120200 }, 0},
		{"the Lost -1", func(c *api.Config) { c.Lost = -1 }, 5},
		{"the Lost 21", func(c *api.Config) { c.Lost = 21 }, 5},
		{"the Lost 20", func(c *api.Config) { c.Lost, c.Ages, c.Listen, c.Span, c.Rate = 20, 22, 44, 44, 400000 }, 0},
		{"the Lost 0", func(c *api.Config) { c.Lost = 0 }, 0},
	})
	holdsEach(t, one(), []change{
		{"the least of everything", func(c *api.Config) {}, 0},
		{"the Cycle 999 of one part", func(c *api.Config) { c.Cycle = 999 }, 1},
		{"the Ages 0 of one part", func(c *api.Config) { c.Ages = 0 }, 4},
	})
}

func TestTimes(t *testing.T) {
	holdsEach(t, two(), []change{
		{"a Window below Near and Edge", func(c *api.Config) { c.Window = 14 }, 6},
		{"the Window of Near and Edge", func(c *api.Config) { c.Window = 15 }, 0},
		{"a negative Window", func(c *api.Config) { c.Window = -20 }, 6},
		{"the Window 20001", func(c *api.Config) { c.Window = 20001 }, 6},
		{"the Window 20000", func(c *api.Config) { c.Cycle, c.Drift, c.Window, c.Slot, c.Lead = 1000000, 0, 20000, 40001, 20000 }, 0},
		{"a Window whose double wraps round", func(c *api.Config) { c.Window = math.MaxInt }, 6},
		{"a Slot of two Windows", func(c *api.Config) { c.Slot = 40 }, 7},
		{"a Slot of two Windows and a tick", func(c *api.Config) { c.Slot = 41 }, 0},
		{"the Slot 0", func(c *api.Config) { c.Slot = 0 }, 7},
		{"the Slot 1000001", func(c *api.Config) { c.Slot = 1000001 }, 7},
		{"the Slot 1000000", func(c *api.Config) { c.Slot = 1000000 }, 9},
		{"a Slot whose sum wraps round", func(c *api.Config) { c.Slot = math.MaxInt }, 7},
		{"a Lead below Window", func(c *api.Config) { c.Lead = 19 }, 8},
		{"the Lead of Window", func(c *api.Config) { c.Lead = 20 }, 0},
		{"the Lead 1000001", func(c *api.Config) { c.Lead = 1000001 }, 8},
		{"the Lead 1000000", func(c *api.Config) { c.Lead = 1000000 }, 9},
		{"a Lead whose sum wraps round", func(c *api.Config) { c.Lead = math.MaxInt }, 8},
		{"a Rate too small for Jump", func(c *api.Config) { c.Rate = 16599 }, 10},
		{"the Rate of Jump", func(c *api.Config) { c.Rate = 16600 }, 0},
		{"Ages too great for Rate", func(c *api.Config) { c.Ages = 8 }, 10},
		{"the greatest Jump and the greatest Rate", func(c *api.Config) {
			c.Cycle, c.Drift, c.Rate, c.Ages = 1000000, 500, 400000, 200
			c.Window, c.Slot, c.Lead = 3003, 6007, 3003
		}, 10},
		{"Ages just small enough for the greatest Drift", func(c *api.Config) {
			c.Cycle, c.Drift, c.Rate, c.Ages = 1000000, 500, 400000, 39
			c.Window, c.Slot, c.Lead = 3003, 6007, 3003
		}, 0},
	})
}

// The part that needs the most slots counts, wherever it stands: here it is part 1, though part 0 has more ports.
func TestLongestPart(t *testing.T) {
	// With this, part 0 needs 20 slots.
	first := func(c *api.Config) { c.Parts[0].Nodes = 8 }
	// With this, the parts need 17, 19 and 24 slots.
	last := func(c *api.Config) {
		c.Parts[1], c.Parts[2] = api.Part{Nodes: 7}, api.Part{Nodes: 12}
		c.Links[0].PortsB = [2]int{6, 3}
		c.Links = append(c.Links, api.Link{A: 1, B: 2, PortsA: [2]int{4, 5}, PortsB: [2]int{11, 10}})
	}
	holdsEach(t, uneven(), []change{
		{"room to the tick for part 1", func(c *api.Config) { c.Lead = 20000 - 18*50 - 20 }, 0},
		{"a tick too few for part 1", func(c *api.Config) { c.Lead = 20000 - 18*50 - 20 + 1 }, 9},
		{"room for part 0, not for part 1", func(c *api.Config) { c.Lead = 20000 - 17*50 - 20 }, 9},
		{"room to the tick for part 0", func(c *api.Config) { first(c); c.Lead = 20000 - 20*50 - 20 }, 0},
		{"a tick too few for part 0", func(c *api.Config) { first(c); c.Lead = 20000 - 20*50 - 20 + 1 }, 9},
		{"room to the tick for part 2", func(c *api.Config) { last(c); c.Lead = 20000 - 24*50 - 20 }, 0},
		{"a tick too few for part 2", func(c *api.Config) { last(c); c.Lead = 20000 - 24*50 - 20 + 1 }, 9},
	})
	// A part without links has its Sync slots alone.
	c := one()
	c.Parts[0].Nodes = 12
	c.Lead = 1000 - 12*7 - 3
	if e, at := agrees(t, c); e != api.OK || at != 0 {
		t.Errorf("P703: Fits of a part alone with room to the tick: %d, %d", e, at)
	}
	c.Lead++
	if e, at := agrees(t, c); e != api.ErrRange || at != 9 {
		t.Errorf("P703: Fits of a part alone with a tick too few: %d, %d", e, at)
	}
}

func TestWaits(t *testing.T) {
	holdsEach(t, two(), []change{
		{"Ages too small for Lost", func(c *api.Config) { c.Ages = 2 }, 11},
		{"Ages as great as Lost asks", func(c *api.Config) { c.Ages = 3 }, 0},
		{"Lost too great for Ages", func(c *api.Config) { c.Lost = 6 }, 11},
		{"Lost just too great for Ages", func(c *api.Config) { c.Lost, c.Listen, c.Span = 5, 14, 14 }, 11},
		{"Lost as great as Ages allows", func(c *api.Config) { c.Lost, c.Listen, c.Span = 4, 12, 12 }, 0},
		{"Listen too small", func(c *api.Config) { c.Listen = 5 }, 12},
		{"Listen too small for Lost", func(c *api.Config) { c.Lost = 2 }, 12},
		{"the Listen 60001", func(c *api.Config) { c.Listen = 60001 }, 12},
		{"the Listen 60000", func(c *api.Config) { c.Listen = 60000 }, 14},
		{"the greatest Listen of all", func(c *api.Config) { c.Listen = math.MaxInt }, 12},
		{"Span too small", func(c *api.Config) { c.Span = 5 }, 13},
		{"Span too small for Lost", func(c *api.Config) { c.Lost, c.Listen, c.Span = 2, 8, 7 }, 13},
		{"the Span 60001", func(c *api.Config) { c.Span = 60001 }, 13},
		{"the Span 60000", func(c *api.Config) { c.Span = 60000 }, 14},
		{"a Span whose product wraps round", func(c *api.Config) { c.Span = math.MaxInt }, 13},
		{"Listen and Spans at most MaxWait", func(c *api.Config) { c.Listen = 59988 }, 0},
		{"Listen and Spans above MaxWait", func(c *api.Config) { c.Listen = 59989 }, 14},
		{"Spans and Listen at most MaxWait", func(c *api.Config) { c.Span = 29997 }, 0},
		{"Spans and Listen above MaxWait", func(c *api.Config) { c.Span = 29998 }, 14},
		{"Room too small", func(c *api.Config) { c.Room = 3 }, 15},
		{"a negative Room", func(c *api.Config) { c.Room = math.MinInt }, 15},
		{"the Room 64", func(c *api.Config) { c.Room = 64 }, 0},
		{"the Room 65", func(c *api.Config) { c.Room = 65 }, 15},
	})
	holdsEach(t, row(), []change{
		{"the least Ages of six parts", func(c *api.Config) { c.Ages = 10 }, 11},
		{"the least Listen of six parts", func(c *api.Config) { c.Listen = 13 }, 12},
		{"the least Span of six parts", func(c *api.Config) { c.Span = 14 }, 0},
		{"a Span too small for six parts", func(c *api.Config) { c.Span = 13 }, 13},
		{"Spans of six parts at most MaxWait", func(c *api.Config) { c.Listen, c.Span = 18, 9997 }, 0},
		{"Spans of six parts above MaxWait", func(c *api.Config) { c.Listen, c.Span = 19, 9997 }, 14},
		{"a Room too small for six parts", func(c *api.Config) { c.Room = 7 }, 15},
	})
	holdsEach(t, one(), []change{
		{"any Lost of one part", func(c *api.Config) { c.Lost, c.Listen, c.Span = 20, 23, 23 }, 0},
		{"Listen too small for one part", func(c *api.Config) { c.Listen = 2 }, 12},
		{"Span too small for one part", func(c *api.Config) { c.Span = 2 }, 13},
		{"Listen and one Span above MaxWait", func(c *api.Config) { c.Listen, c.Span = 30000, 30001 }, 14},
		{"Listen and one Span at most MaxWait", func(c *api.Config) { c.Listen, c.Span = 30000, 30000 }, 0},
		{"Room too small for one part", func(c *api.Config) { c.Room = 2 }, 15},
	})
}

// breaks breaks one condition each, whatever the others are, from the last one to the first one.
func breaks() []func(c *api.Config) {
	return []func(c *api.Config){
		func(c *api.Config) { c.Room = 0 },
		func(c *api.Config) { c.Listen, c.Span = 59999, 6 },
		func(c *api.Config) { c.Span = 0 },
		func(c *api.Config) { c.Listen = 0 },
		func(c *api.Config) { c.Ages, c.Lost = 6, 6 },
		func(c *api.Config) { c.Rate = 0 },
		func(c *api.Config) { c.Lead = 20000 },
		func(c *api.Config) { c.Lead = 0 },
		func(c *api.Config) { c.Slot = 0 },
		func(c *api.Config) { c.Window = 0 },
		func(c *api.Config) { c.Lost = -1 },
		func(c *api.Config) { c.Ages = 0 },
		func(c *api.Config) { c.Rate = -1 },
		func(c *api.Config) { c.Drift = -1 },
		func(c *api.Config) { c.Cycle = 0 },
	}
}

// The first condition that does not hold is told, however many do not.
func TestOrder(t *testing.T) {
	c := two()
	for i, bend := range breaks() {
		bend(&c)
		if e, at := bounds.Fits(c); e != api.ErrRange || at != 15-i {
			t.Errorf("P703: Fits with all from condition %d on broken: %d, %d", 15-i, e, at)
		}
		agrees(t, c)
	}
	list := breaks()
	for i, later := range list {
		for _, earlier := range list[i+1:] {
			c := two()
			later(&c)
			earlier(&c)
			agrees(t, c)
		}
	}
}

// The errors of plan.Check come ahead of all conditions, with the number of their part or link.
func TestErrorsOfParts(t *testing.T) {
	for _, x := range []struct {
		what string
		bend func(c *api.Config)
		e    api.Errno
		at   int
	}{
		{"no parts", func(c *api.Config) { c.Parts = nil }, api.ErrParts, 0},
		{"seven parts", func(c *api.Config) { c.Parts = append(c.Parts, api.Part{Nodes: 1}) }, api.ErrParts, 0},
		{"too few nodes", func(c *api.Config) { c.Parts[4].Nodes = 3 }, api.ErrNodes, 4},
		{"too many links", func(c *api.Config) { c.Links = make([]api.Link, 11) }, api.ErrLinks, 0},
		{"a link to no part", func(c *api.Config) { c.Links[4].B = 6 }, api.ErrEnds, 4},
		{"a link twice", func(c *api.Config) { c.Links[3] = c.Links[1] }, api.ErrTwice, 3},
		{"a port twice", func(c *api.Config) { c.Links[2].PortsA[1] = 3 }, api.ErrPorts, 2},
		{"a part apart", func(c *api.Config) { c.Links = c.Links[:3] }, api.ErrApart, 4},
	} {
		c := copyOf(row())
		x.bend(&c)
		for range 2 {
			if e, at := bounds.Fits(c); e != x.e || at != x.at {
				t.Errorf("P703: Fits with %s: %d, %d; not %d, %d", x.what, e, at, x.e, x.at)
			}
			if got := all(c); got != [6]int64{} || bounds.Gone(c) != 0 {
				t.Errorf("P701: the numbers of a network with %s: %v, %d", x.what, got, bounds.Gone(c))
			}
			agrees(t, c)
			// The second time no condition holds.
			for _, bend := range breaks() {
				bend(&c)
			}
		}
	}
}

// dice returns numbers without a pattern, always the same ones for the same seed.
func dice(seed uint64) func(n int) int {
	return func(n int) int {
		seed = seed*6364136223846793005 + 1442695040888963407
		return int(seed>>33) % n
	}
}

// fields lists the numbers of c.
func fields(c *api.Config) []*int {
	return []*int{&c.Cycle, &c.Lead, &c.Slot, &c.Window, &c.Drift, &c.Rate, &c.Ages, &c.Lost, &c.Listen, &c.Span, &c.Room}
}

// edges lists numbers at which some condition turns, or at which products wrap round.
func edges() []int {
	return []int{math.MinInt, math.MinInt + 1, math.MinInt / 2, -1000001, -1, 0, 1, 2, 3, 20, 21, 64, 65, 200, 201, 500, 501, 999, 1000, 20000, 20001, 60000, 60001, 400000, 400001, 1000000, 1000001, 1 << 31, 1 << 62, math.MaxInt / 2, math.MaxInt / 3, math.MaxInt - 1, math.MaxInt}
}

// Every number of every network is set to every edge, alone and with another one.
func TestEdges(t *testing.T) {
	for _, base := range []api.Config{one(), two(), uneven(), row()} {
		for i := range fields(&base) {
			for j, n := range edges() {
				c := copyOf(base)
				*fields(&c)[i] = n
				agrees(t, c)
				other := (i + 1 + j%10) % 11
				*fields(&c)[other] = edges()[(j*7+i)%len(edges())]
				agrees(t, c)
			}
		}
	}
}

// thrown returns a network without a pattern that is near to fitting: its numbers are drawn around what the conditions ask.
func thrown(seed uint64) api.Config {
	roll := dice(seed)
	bases := []api.Config{one(), two(), uneven(), row()}
	c := copyOf(bases[roll(len(bases))])
	c.Cycle = 1000 + roll(100000)
	c.Drift = roll(501)
	c.Lost = roll(5)
	c.Ages = 1 + (len(c.Parts)-1)*(c.Lost+1) + roll(4)
	d := derive(c)
	c.Window = int(d.near.Int64()+d.edge.Int64()) + roll(20)
	c.Slot = 2*c.Window + 1 + roll(20)
	c.Lead = c.Window + roll(20)
	c.Rate = min(400000, int(d.jump.Int64()*1000000/int64(c.Cycle))+1+roll(3))
	c.Listen = len(c.Parts)*(c.Lost+1) + 2 + roll(4)
	c.Span = len(c.Parts)*(c.Lost+1) + 2 + roll(4)
	c.Room = len(c.Parts) + 2 + roll(4)
	switch all := fields(&c); roll(4) {
	case 0, 1:
		*all[roll(len(all))] += 1 - roll(3)*roll(10)
	case 2:
		// The longest parts of these networks need between 1 and 18 slots, so some of them have just too little room.
		c.Slot = (c.Cycle - c.Lead - c.Window) / (16 + roll(10))
	}
	return c
}

func TestThrown(t *testing.T) {
	seen := map[int]int{}
	for seed := range uint64(20000) {
		_, at := agrees(t, thrown(seed))
		seen[at]++
	}
	for _, at := range []int{0, 4, 6, 7, 8, 9, 10, 11, 12, 13, 15} {
		if seen[at] < 20 {
			t.Errorf("only so many of the networks break condition %d: %v", at, seen)
		}
	}
}

func TestArgumentsStay(t *testing.T) {
	for _, c := range []api.Config{one(), two(), uneven(), row()} {
		parts := append(slices.Clone(c.Parts), api.Part{Nodes: 77, Faults: 78})
		links := append(slices.Clone(c.Links), api.Link{A: 77, B: 78})
		c.Parts, c.Links = parts[:len(parts)-1], links[:len(links)-1]
		wantParts, wantLinks := slices.Clone(parts), slices.Clone(links)
		agrees(t, c)
		agrees(t, c)
		if !slices.Equal(parts, wantParts) || !slices.Equal(links, wantLinks) {
			t.Errorf("rule 4: an argument was changed: %+v", c)
		}
	}
}
