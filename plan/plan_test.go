package plan_test

import (
	"math"
	"slices"
	"testing"

	"drumline/api"
	"drumline/plan"
)

// two returns the network of the chapter's example.
func two() api.Config {
	return api.Config{
		Parts: []api.Part{{Nodes: 4, Faults: 1}, {Nodes: 4, Faults: 1}},
		Links: []api.Link{{A: 0, B: 1, PortsA: [2]int{0, 1}, PortsB: [2]int{2, 3}}},
	}
}

// full returns a network with as many parts, nodes, faults and links as may be; each link takes the next two free nodes at its ends.
func full() api.Config {
	var c api.Config
	var next [6]int
	for range 6 {
		c.Parts = append(c.Parts, api.Part{Nodes: 12, Faults: 3})
	}
	take := func(part int) [2]int {
		n := next[part]
		next[part] += 2
		return [2]int{n + 1, n}
	}
	for a := range 6 {
		for b := a + 1; b < 6 && len(c.Links) < 10; b++ {
			c.Links = append(c.Links, api.Link{A: a, B: b, PortsA: take(a), PortsB: take(b)})
		}
	}
	return c
}

// row returns parts in a row, whose links are numbered from the last one to the first one.
func row(parts int) api.Config {
	var c api.Config
	for i := range parts {
		c.Parts = append(c.Parts, api.Part{Nodes: 4, Faults: 1})
		if i > 0 {
			l := api.Link{A: i - 1, B: i, PortsA: [2]int{3, 1}, PortsB: [2]int{0, 2}}
			c.Links = slices.Insert(c.Links, 0, l)
		}
	}
	return c
}

// copyOf returns a network that shares no list with c.
func copyOf(c api.Config) api.Config {
	c.Parts, c.Links = slices.Clone(c.Parts), slices.Clone(c.Links)
	return c
}

// place is a node of a part.
type place struct{ part, node int }

// gate is one of the two places of a gateway: the port there, and the place at the other side.
type gate struct {
	here, there place
	port        api.Port
}

// gates lists all places of a link's gateways, written out one by one.
func gates(i int, l api.Link) []gate {
	a0, b0 := place{l.A, l.PortsA[0]}, place{l.B, l.PortsB[0]}
	a1, b1 := place{l.A, l.PortsA[1]}, place{l.B, l.PortsB[1]}
	return []gate{
		{a0, b0, api.Port{Node: a0.node, Link: i, Gate: 0, Side: 0}},
		{a1, b1, api.Port{Node: a1.node, Link: i, Gate: 1, Side: 0}},
		{b0, a0, api.Port{Node: b0.node, Link: i, Gate: 0, Side: 1}},
		{b1, a1, api.Port{Node: b1.node, Link: i, Gate: 1, Side: 1}},
	}
}

// checked works out what Check answers by another way than the package does: places and pairs in sets, and parts that are merged into groups.
func checked(c api.Config) (api.Errno, int) {
	if n := len(c.Parts); n == 0 || n > 6 {
		return api.ErrParts, 0
	}
	nodes := map[place]bool{}
	group := map[int]int{}
	for i, p := range c.Parts {
		least, ok := map[int]int{0: 1, 1: 4, 2: 7, 3: 10}[p.Faults]
		if !ok || p.Nodes < least || p.Nodes > 12 {
			return api.ErrNodes, i
		}
		for n := range p.Nodes {
			nodes[place{i, n}] = true
		}
		group[i] = i
	}
	if len(c.Links) > 10 {
		return api.ErrLinks, 0
	}
	pairs := map[[2]int]bool{}
	for i, l := range c.Links {
		_, a := group[l.A]
		_, b := group[l.B]
		if !a || !b || l.A >= l.B {
			return api.ErrEnds, i
		}
		if pairs[[2]int{l.A, l.B}] {
			return api.ErrTwice, i
		}
		pairs[[2]int{l.A, l.B}] = true
		// A place that was taken is no longer among the nodes, whether by this link or by an earlier one.
		for _, g := range gates(i, l) {
			if !nodes[g.here] {
				return api.ErrPorts, i
			}
			delete(nodes, g.here)
		}
		from, to := group[l.B], group[l.A]
		for p := range c.Parts {
			if group[p] == from {
				group[p] = to
			}
		}
	}
	for i := range c.Parts {
		if group[i] != group[0] {
			return api.ErrApart, i
		}
	}
	return api.OK, 0
}

// agrees holds all answers about c against those that are worked out by another way.
func agrees(t *testing.T, c api.Config) {
	t.Helper()
	e, at := checked(c)
	if ge, gat := plan.Check(c); ge != e || gat != at {
		t.Errorf("P501: Check of %+v: %d, %d; not %d, %d", c, ge, gat, e, at)
	}
	all := map[place]gate{}
	if e == api.OK {
		for i, l := range c.Links {
			for _, g := range gates(i, l) {
				all[g.here] = g
			}
		}
	}
	for _, part := range []int{math.MinInt, -1, 0, 1, 2, 3, 4, 5, 6, 7, math.MaxInt} {
		agreesIn(t, c, part, all)
	}
}

// agreesIn holds the answers about the ports of one part against all gates of c.
func agreesIn(t *testing.T, c api.Config, part int, all map[place]gate) {
	t.Helper()
	var want []api.Port
	for _, node := range []int{math.MinInt, -1, 0, 1, 2, 3, 4, 5, 6, 7, 8, 9, 10, 11, 12, 13, math.MaxInt} {
		g, is := all[place{part, node}]
		if is {
			want = append(want, g.port)
		}
		if p, ok := plan.Port(c, part, node); ok != is || p != g.port {
			t.Errorf("P502: Port(%d, %d) of %+v: %+v, %v; not %+v, %v", part, node, c, p, ok, g.port, is)
		}
		if p, n, ok := plan.Far(c, part, node); ok != is || p != g.there.part || n != g.there.node {
			t.Errorf("P502: Far(%d, %d) of %+v: %d, %d, %v; not %+v, %v", part, node, c, p, n, ok, g.there, is)
		}
	}
	if got := plan.Ports(c, part); !slices.Equal(got, want) {
		t.Errorf("P502: Ports(%d) of %+v: %+v; not %+v", part, c, got, want)
	}
}

func TestExamples(t *testing.T) {
	c := two()
	if e, at := plan.Check(c); e != api.OK || at != 0 {
		t.Errorf("P501: Check: %d, %d", e, at)
	}
	if l := plan.Ports(c, 2); len(l) != 0 {
		t.Errorf("P502: Ports of a part that does not exist: %v", l)
	}
	if p, ok := plan.Port(c, 0, 2); ok || p != (api.Port{}) {
		t.Errorf("P502: Port of a node that belongs to no link: %v, %v", p, ok)
	}
	if part, node, ok := plan.Far(c, 0, 1); part != 1 || node != 3 || !ok {
		t.Errorf("P502: Far(0, 1): %d, %d, %v", part, node, ok)
	}
	c.Links = nil
	if e, at := plan.Check(c); e != api.ErrApart || at != 1 {
		t.Errorf("P501: Check of two parts without links: %d, %d", e, at)
	}
}

// bent is a network that was changed, and what Check must answer about it.
type bent struct {
	what string
	c    api.Config
	e    api.Errno
	at   int
}

// holds checks each of the networks, by what is written beside it and by the other way.
func holds(t *testing.T, l []bent) {
	t.Helper()
	for _, x := range l {
		if e, at := plan.Check(x.c); e != x.e || at != x.at {
			t.Errorf("P501: Check of %s: %d, %d; not %d, %d", x.what, e, at, x.e, x.at)
		}
		agrees(t, x.c)
	}
}

// bend returns a copy of c that was changed.
func bend(c api.Config, how func(c *api.Config)) api.Config {
	c = copyOf(c)
	how(&c)
	return c
}

func TestNumbersOfParts(t *testing.T) {
	many := make([]api.Part, 100000)
	holds(t, []bent{
		{"nothing", api.Config{}, api.ErrParts, 0},
		{"links without parts", api.Config{Links: full().Links}, api.ErrParts, 0},
		{"an empty list", api.Config{Parts: []api.Part{}}, api.ErrParts, 0},
		{"a part alone", api.Config{Parts: []api.Part{{Nodes: 1}}}, api.OK, 0},
		{"six parts in a row", row(6), api.OK, 0},
		{"seven parts in a row", row(7), api.ErrParts, 0},
		{"many wrong parts", api.Config{Parts: many}, api.ErrParts, 0},
	})
}

func TestNodesAndFaults(t *testing.T) {
	numbers := []int{math.MinInt, math.MinInt + 1, -4, -3, -2, -1, 14, 100, math.MaxInt / 3, math.MaxInt/3 + 1, math.MaxInt - 1, math.MaxInt}
	for n := range 14 {
		numbers = append(numbers, n)
	}
	for _, nodes := range numbers {
		for _, faults := range numbers {
			p := api.Part{Nodes: nodes, Faults: faults}
			agrees(t, api.Config{Parts: []api.Part{p}})
			agrees(t, api.Config{Parts: []api.Part{{Nodes: 1}, p}})
			agrees(t, api.Config{Parts: []api.Part{p, {}}})
		}
	}
	// Each number of faults with just enough nodes, and with one too few.
	for faults, least := range []int{1, 4, 7, 10} {
		holds(t, []bent{
			{"just enough nodes", api.Config{Parts: []api.Part{{Nodes: least, Faults: faults}}}, api.OK, 0},
			{"a node too few", api.Config{Parts: []api.Part{{Nodes: least - 1, Faults: faults}}}, api.ErrNodes, 0},
			{"twelve nodes", api.Config{Parts: []api.Part{{Nodes: 12, Faults: faults}}}, api.OK, 0},
			{"thirteen nodes", api.Config{Parts: []api.Part{{Nodes: 13, Faults: faults}}}, api.ErrNodes, 0},
		})
	}
	for i := range 6 {
		holds(t, []bent{
			{"four faults", bend(full(), func(c *api.Config) { c.Parts[i].Faults = 4 }), api.ErrNodes, i},
			{"a fault less than none", bend(full(), func(c *api.Config) { c.Parts[i].Faults = -1 }), api.ErrNodes, i},
			{"no nodes", bend(full(), func(c *api.Config) { c.Parts[i] = api.Part{} }), api.ErrNodes, i},
			{"wrong parts from here on", bend(full(), func(c *api.Config) { clear(c.Parts[i:]) }), api.ErrNodes, i},
		})
	}
}

func TestNumbersOfLinks(t *testing.T) {
	eleven := bend(full(), func(c *api.Config) {
		c.Links = append(c.Links, api.Link{A: 4, B: 5, PortsA: [2]int{10, 11}, PortsB: [2]int{10, 11}})
	})
	holds(t, []bent{
		{"ten links", full(), api.OK, 0},
		{"eleven links", eleven, api.ErrLinks, 0},
		{"eleven wrong links", bend(two(), func(c *api.Config) { c.Links = make([]api.Link, 11) }), api.ErrLinks, 0},
		{"ten wrong links", bend(two(), func(c *api.Config) { c.Links = make([]api.Link, 10) }), api.ErrEnds, 0},
		{"many wrong links", bend(two(), func(c *api.Config) { c.Links = make([]api.Link, 100000) }), api.ErrLinks, 0},
		{"a wrong part and many links", bend(eleven, func(c *api.Config) { c.Parts[5].Nodes = 0 }), api.ErrNodes, 5},
	})
}

func TestEnds(t *testing.T) {
	numbers := []int{math.MinInt, math.MinInt + 1, -2, -1, 0, 1, 2, 3, 4, 5, 6, 7, math.MaxInt - 1, math.MaxInt}
	for _, a := range numbers {
		for _, b := range numbers {
			for _, c := range []api.Config{two(), row(3), row(6), full()} {
				for i := range c.Links {
					agrees(t, bend(c, func(c *api.Config) { c.Links[i].A, c.Links[i].B = a, b }))
				}
			}
		}
	}
	holds(t, []bent{
		{"a link from a part to itself", bend(two(), func(c *api.Config) { c.Links[0].A = 1 }), api.ErrEnds, 0},
		{"a link from part 0 to itself", bend(two(), func(c *api.Config) { c.Links[0].B = 0 }), api.ErrEnds, 0},
		{"a link to an earlier part", bend(two(), func(c *api.Config) { c.Links[0].A, c.Links[0].B = 1, 0 }), api.ErrEnds, 0},
		{"a link to no part", bend(two(), func(c *api.Config) { c.Links[0].B = 2 }), api.ErrEnds, 0},
		{"a link from no part", bend(two(), func(c *api.Config) { c.Links[0].A = -1 }), api.ErrEnds, 0},
		{"a later link to no part", bend(full(), func(c *api.Config) { c.Links[9].B = 6 }), api.ErrEnds, 9},
		{"a link with wrong ends and ports", bend(two(), func(c *api.Config) { c.Links[0] = api.Link{} }), api.ErrEnds, 0},
	})
}

func TestTwice(t *testing.T) {
	again := func(i int, a, b [2]int) func(c *api.Config) {
		return func(c *api.Config) {
			l := c.Links[i]
			l.PortsA, l.PortsB = a, b
			c.Links = append(c.Links, l)
		}
	}
	holds(t, []bent{
		{"a link twice, over other nodes", bend(two(), again(0, [2]int{2, 3}, [2]int{0, 1})), api.ErrTwice, 1},
		{"a link twice, over the same nodes", bend(two(), again(0, [2]int{0, 1}, [2]int{2, 3})), api.ErrTwice, 1},
		{"a link twice, over wrong nodes", bend(two(), again(0, [2]int{-1, -1}, [2]int{9, 9})), api.ErrTwice, 1},
		{"the last of a row twice", bend(row(5), again(3, [2]int{0, 2}, [2]int{1, 3})), api.ErrTwice, 4},
		{"the first of a row twice", bend(row(5), again(0, [2]int{0, 2}, [2]int{1, 3})), api.ErrTwice, 4},
		{"links with the same A or the same B", full(), api.OK, 0},
		{"links that are all different", row(6), api.OK, 0},
	})
}

func TestNodesOfPorts(t *testing.T) {
	numbers := []int{math.MinInt, -2, -1, 0, 1, 2, 3, 4, 5, 10, 11, 12, 13, math.MaxInt}
	for _, c := range []api.Config{two(), row(4), full()} {
		for i := range c.Links {
			for _, n := range numbers {
				for k := range 2 {
					agrees(t, bend(c, func(c *api.Config) { c.Links[i].PortsA[k] = n }))
					agrees(t, bend(c, func(c *api.Config) { c.Links[i].PortsB[k] = n }))
				}
				agrees(t, bend(c, func(c *api.Config) { c.Links[i].PortsA = [2]int{n, n} }))
				agrees(t, bend(c, func(c *api.Config) { c.Links[i].PortsB = [2]int{n, n} }))
			}
		}
	}
	uneven := func(a, b int) api.Config {
		return api.Config{
			Parts: []api.Part{{Nodes: 12}, {Nodes: 2}},
			Links: []api.Link{{A: 0, B: 1, PortsA: [2]int{11, a}, PortsB: [2]int{0, b}}},
		}
	}
	holds(t, []bent{
		{"the last nodes of parts of different sizes", uneven(10, 1), api.OK, 0},
		{"a port behind the last node of A", uneven(12, 1), api.ErrPorts, 0},
		{"a port that is a node of A but not of B", uneven(10, 2), api.ErrPorts, 0},
		{"the same node of A twice", uneven(11, 1), api.ErrPorts, 0},
		{"the same node of B twice", uneven(10, 0), api.ErrPorts, 0},
		{"a port less than node 0", uneven(10, -1), api.ErrPorts, 0},
	})
}

func TestPortsOfEarlierLinks(t *testing.T) {
	star := func(a, b [2]int) api.Config {
		return bend(two(), func(c *api.Config) {
			c.Parts = append(c.Parts, api.Part{Nodes: 4})
			c.Links = append(c.Links, api.Link{A: 0, B: 2, PortsA: a, PortsB: b})
		})
	}
	chain := func(a [2]int) api.Config {
		return bend(two(), func(c *api.Config) {
			c.Parts = append(c.Parts, api.Part{Nodes: 4})
			c.Links = append(c.Links, api.Link{A: 1, B: 2, PortsA: a, PortsB: [2]int{2, 3}})
		})
	}
	holds(t, []bent{
		{"the same nodes of another part", star([2]int{2, 3}, [2]int{2, 3}), api.OK, 0},
		{"the first node of A taken by an A", star([2]int{2, 0}, [2]int{2, 3}), api.ErrPorts, 1},
		{"the second node of A taken by an A", star([2]int{1, 3}, [2]int{2, 3}), api.ErrPorts, 1},
		{"the other nodes of B as A", chain([2]int{1, 0}), api.OK, 0},
		{"the first node of B taken as A", chain([2]int{2, 0}), api.ErrPorts, 1},
		{"the second node of B taken as A", chain([2]int{0, 3}), api.ErrPorts, 1},
		{"a node taken by a B", bend(full(), func(c *api.Config) { c.Links[8].PortsB[1] = c.Links[3].PortsB[0] }), api.ErrPorts, 8},
		{"a node taken two links later", bend(row(4), func(c *api.Config) { c.Links[2].PortsB[0] = 1 }), api.ErrPorts, 2},
	})
}

func TestOrderOfErrors(t *testing.T) {
	c := bend(full(), func(c *api.Config) {
		c.Links[2].PortsA[0] = 12
		c.Links[4].B = 6
	})
	twice := bend(full(), func(c *api.Config) {
		c.Links[3] = c.Links[1]
		c.Links[2].PortsB = [2]int{5, 5}
	})
	holds(t, []bent{
		{"wrong ports ahead of wrong ends", c, api.ErrPorts, 2},
		{"wrong ends ahead of wrong ports", bend(c, func(c *api.Config) { c.Links[1].A = 2 }), api.ErrEnds, 1},
		{"wrong ports ahead of a link twice", twice, api.ErrPorts, 2},
		{"wrong ports and a part apart", bend(row(6), func(c *api.Config) { c.Links = c.Links[:1]; c.Links[0].PortsA[0] = 4 }), api.ErrPorts, 0},
		{"wrong ends and a part apart", bend(row(6), func(c *api.Config) { c.Links = c.Links[:1]; c.Links[0].B = 6 }), api.ErrEnds, 0},
	})
}

func TestApart(t *testing.T) {
	for parts := 2; parts <= 6; parts++ {
		for i := range parts - 1 {
			c := bend(row(parts), func(c *api.Config) { c.Links = slices.Delete(c.Links, i, i+1) })
			holds(t, []bent{{"a row without a link", c, api.ErrApart, parts - 1 - i}})
		}
	}
	// Part 0 reaches part 1 only by way of all greater parts.
	zigzag := api.Config{
		Parts: []api.Part{{Nodes: 2}, {Nodes: 2}, {Nodes: 4}, {Nodes: 4}, {Nodes: 4}, {Nodes: 4}},
		Links: []api.Link{
			{A: 1, B: 2, PortsA: [2]int{0, 1}, PortsB: [2]int{0, 1}},
			{A: 2, B: 4, PortsA: [2]int{2, 3}, PortsB: [2]int{0, 1}},
			{A: 3, B: 4, PortsA: [2]int{0, 1}, PortsB: [2]int{2, 3}},
			{A: 3, B: 5, PortsA: [2]int{2, 3}, PortsB: [2]int{0, 1}},
			{A: 0, B: 5, PortsA: [2]int{0, 1}, PortsB: [2]int{2, 3}},
		},
	}
	for i := range zigzag.Links {
		c := bend(zigzag, func(c *api.Config) { c.Links = slices.Delete(c.Links, i, i+1) })
		holds(t, []bent{{"a row that turns, without a link", c, api.ErrApart, 1}})
	}
	holds(t, []bent{
		{"a row that turns", zigzag, api.OK, 0},
		{"a row that turns, from its other end", bend(zigzag, func(c *api.Config) { slices.Reverse(c.Links) }), api.OK, 0},
		{"part 3 alone apart", bend(full(), func(c *api.Config) {
			c.Links = slices.DeleteFunc(c.Links, func(l api.Link) bool { return l.A == 3 || l.B == 3 })
		}), api.ErrApart, 3},
	})
}

func TestPortsOfAllGates(t *testing.T) {
	for _, c := range []api.Config{two(), row(2), row(6), full(), {Parts: []api.Part{{Nodes: 12}}}} {
		if e, at := plan.Check(c); e != api.OK || at != 0 {
			t.Errorf("P501: Check of %+v: %d, %d", c, e, at)
		}
		agrees(t, c)
	}
	c := row(3)
	want := []api.Port{{Node: 0, Link: 1, Gate: 0, Side: 1}, {Node: 1, Link: 0, Gate: 1, Side: 0}, {Node: 2, Link: 1, Gate: 1, Side: 1}, {Node: 3, Link: 0, Gate: 0, Side: 0}}
	if got := plan.Ports(c, 1); !slices.Equal(got, want) {
		t.Errorf("P502: Ports of two links that alternate: %+v", got)
	}
	// The other side of the other side is where one began.
	for part := range 6 {
		for _, p := range plan.Ports(full(), part) {
			a, n, _ := plan.Far(full(), part, p.Node)
			if b, m, ok := plan.Far(full(), a, n); !ok || b != part || m != p.Node {
				t.Errorf("P502: Far of Far(%d, %d): %d, %d, %v", part, p.Node, b, m, ok)
			}
		}
	}
}

func TestOtherNumbersDoNotCount(t *testing.T) {
	c := full()
	for _, n := range []int{math.MinInt, -1, 0, 1, math.MaxInt} {
		c.Cycle, c.Lead, c.Slot, c.Window, c.Drift, c.Rate = n, n, n, n, n, n
		c.Ages, c.Lost, c.Listen, c.Span, c.Room = n, n, n, n, n
		if e, at := plan.Check(c); e != api.OK || at != 0 {
			t.Errorf("P501: Check with the other numbers %d: %d, %d", n, e, at)
		}
		agrees(t, c)
	}
}

// dice returns numbers without a pattern, always the same ones for the same seed.
func dice(seed uint64) func(n int) int {
	return func(n int) int {
		seed = seed*6364136223846793005 + 1442695040888963407
		return int(seed>>33) % n
	}
}

// thrown returns a network without a pattern whose ends mostly exist; how often it is wrong hangs on the seed.
func thrown(seed uint64) api.Config {
	roll := dice(seed)
	wild := seed%3 == 0
	var c api.Config
	for range 1 + roll(6) {
		p := api.Part{Nodes: 4 + roll(9)}
		p.Faults = roll((p.Nodes + 2) / 3)
		if wild && roll(30) == 0 {
			p = api.Part{Nodes: roll(15) - 1, Faults: roll(6) - 1}
		}
		c.Parts = append(c.Parts, p)
	}
	next := make([]int, len(c.Parts))
	for range roll(12) {
		a, b := roll(len(c.Parts)), roll(len(c.Parts))
		if a > b && !wild {
			a, b = b, a
		}
		l := api.Link{A: a, B: b, PortsA: [2]int{next[a], next[a] + 1}, PortsB: [2]int{next[b] + 1, next[b]}}
		next[a], next[b] = next[a]+2, next[b]+2
		if wild && roll(9) == 0 {
			l.PortsA[roll(2)], l.PortsB[roll(2)] = roll(14)-1, roll(14)-1
		}
		if a != b || wild {
			c.Links = append(c.Links, l)
		}
	}
	return c
}

func TestThrown(t *testing.T) {
	seen := map[api.Errno]int{}
	for seed := range uint64(6000) {
		c := thrown(seed)
		e, _ := checked(c)
		seen[e]++
		agrees(t, c)
	}
	for _, e := range []api.Errno{api.OK, api.ErrNodes, api.ErrEnds, api.ErrTwice, api.ErrPorts, api.ErrApart} {
		if seen[e] < 50 {
			t.Errorf("only %d of the networks come to %d", seen[e], e)
		}
	}
}

func TestArgumentsStay(t *testing.T) {
	for _, c := range []api.Config{two(), row(6), full(), thrown(1), thrown(3)} {
		parts := append(slices.Clone(c.Parts), api.Part{Nodes: 77, Faults: 78})
		links := append(slices.Clone(c.Links), api.Link{A: 77, B: 78})
		c.Parts, c.Links = parts[:len(parts)-1], links[:len(links)-1]
		wantParts, wantLinks := slices.Clone(parts), slices.Clone(links)
		plan.Check(c)
		for part := range c.Parts {
			first := plan.Ports(c, part)
			want := slices.Clone(first)
			plan.Port(c, part, 0)
			plan.Far(c, part, 0)
			clear(first[:cap(first)])
			if second := plan.Ports(c, part); !slices.Equal(second, want) {
				t.Errorf("rule 5: a later answer hangs on an earlier one: %+v", second)
			}
		}
		if !slices.Equal(parts, wantParts) || !slices.Equal(links, wantLinks) {
			t.Errorf("rule 4: an argument was changed: %+v", c)
		}
		agrees(t, c)
	}
}
