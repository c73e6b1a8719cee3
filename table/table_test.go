package table_test

import (
	"math"
	"math/big"
	"slices"
	"testing"

	"drumline/api"
	"drumline/bounds"
	"drumline/table"
)

// two returns the network of the chapter's examples: Lead 30, Slot 50, Window 20.
func two() api.Config {
	return api.Config{
		Parts: []api.Part{{Nodes: 4, Faults: 1}, {Nodes: 4, Faults: 1}},
		Links: []api.Link{{A: 0, B: 1, PortsA: [2]int{0, 1}, PortsB: [2]int{2, 3}}},
		Cycle: 20000, Lead: 30, Slot: 50, Window: 20, Drift: 100, Rate: 20000, Ages: 6, Lost: 1, Listen: 6, Span: 6, Room: 4,
	}
}

// one returns the smallest network that fits: a single node without ports, in slots whose windows touch.
func one() api.Config {
	return api.Config{
		Parts: []api.Part{{Nodes: 1}},
		Cycle: 1000, Lead: 3, Slot: 7, Window: 3, Rate: 16000, Ages: 1, Listen: 3, Span: 3, Room: 3,
	}
}

// uneven returns parts of 5, 12 and 4 nodes, whose links do not name their ports in ascending order.
func uneven() api.Config {
	c := two()
	c.Parts = []api.Part{{Nodes: 5, Faults: 1}, {Nodes: 12, Faults: 3}, {Nodes: 4, Faults: 0}}
	c.Links = []api.Link{
		{A: 0, B: 1, PortsA: [2]int{3, 1}, PortsB: [2]int{11, 3}},
		{A: 0, B: 2, PortsA: [2]int{4, 0}, PortsB: [2]int{0, 3}},
	}
	c.Listen, c.Span, c.Room = 8, 9, 5
	return c
}

// full returns as many parts, nodes, ports and links as may be; each link takes the next two free nodes at its ends, the greater one first.
func full() api.Config {
	c := two()
	c.Parts, c.Links = nil, nil
	var next [api.MaxParts]int
	take := func(part int) [2]int {
		n := next[part]
		next[part] += 2
		return [2]int{n + 1, n}
	}
	for range api.MaxParts {
		c.Parts = append(c.Parts, api.Part{Nodes: api.MaxNodes, Faults: api.MaxFaults})
	}
	for a := range api.MaxParts {
		for b := a + 1; b < api.MaxParts && len(c.Links) < api.MaxLinks; b++ {
			c.Links = append(c.Links, api.Link{A: a, B: b, PortsA: take(a), PortsB: take(b)})
		}
	}
	c.Ages, c.Lost, c.Rate, c.Listen, c.Span, c.Room = 11, 1, 40000, 14, 15, 8
	return c
}

// tight returns the network of two parts with the smallest Window, and Slot and Lead that are as small as it allows: windows touch, and the first one begins at 0.
func tight() api.Config {
	c := two()
	c.Window, c.Slot, c.Lead = 15, 31, 15
	return c
}

// long returns the network of two parts with the greatest Window and Cycle.
func long() api.Config {
	c := two()
	c.Cycle, c.Drift, c.Window, c.Slot, c.Lead = 1000000, 0, 20000, 40001, 30000
	return c
}

// named is a network with a name.
type named struct {
	name string
	c    api.Config
}

// fitting lists networks that fit.
func fitting(t *testing.T) []named {
	t.Helper()
	l := []named{{"one", one()}, {"two", two()}, {"uneven", uneven()}, {"full", full()}, {"tight", tight()}, {"long", long()}}
	for _, x := range l {
		if e, at := bounds.Fits(x.c); e != api.OK {
			t.Fatalf("the network %s does not fit: %d, %d", x.name, e, at)
		}
	}
	return l
}

// copyOf returns a network that shares no list with c.
func copyOf(c api.Config) api.Config {
	c.Parts, c.Links = slices.Clone(c.Parts), slices.Clone(c.Links)
	return c
}

// isPort reports whether some link has the node as a port in the part.
func isPort(c api.Config, part, node int) bool {
	return slices.ContainsFunc(c.Links, func(l api.Link) bool {
		return l.A == part && slices.Contains(l.PortsA[:], node) || l.B == part && slices.Contains(l.PortsB[:], node)
	})
}

// places works out where each slot stands by another way than the package does: it counts, for each node, what the chapter puts ahead of it.
func places(c api.Config, part int) map[[2]int]int {
	ports, nodes := 0, c.Parts[part].Nodes
	for node := range nodes {
		if isPort(c, part, node) {
			ports++
		}
	}
	m := map[[2]int]int{}
	below := 0 // ports that are smaller than node
	for node := range nodes {
		m[[2]int{api.Sync, node}] = 2*ports + node
		if isPort(c, part, node) {
			m[[2]int{api.Gate, node}] = 2 * below
			m[[2]int{api.Member, node}] = 2*below + 1
			m[[2]int{api.Data, node}] = 2*ports + nodes + below
			below++
		}
	}
	return m
}

// off returns by how much two numbers differ; no number is too great for it.
func off(a, b int) *big.Int {
	d := new(big.Int).Sub(big.NewInt(int64(a)), big.NewInt(int64(b)))
	return d.Abs(d)
}

func TestSlotsExample(t *testing.T) {
	for part, ports := range [][2]int{{0, 1}, {2, 3}} {
		want := []api.Slot{
			{Kind: api.Gate, Node: ports[0], At: 30},
			{Kind: api.Member, Node: ports[0], At: 80},
			{Kind: api.Gate, Node: ports[1], At: 130},
			{Kind: api.Member, Node: ports[1], At: 180},
			{Kind: api.Sync, Node: 0, At: 230},
			{Kind: api.Sync, Node: 1, At: 280},
			{Kind: api.Sync, Node: 2, At: 330},
			{Kind: api.Sync, Node: 3, At: 380},
			{Kind: api.Data, Node: ports[0], At: 430},
			{Kind: api.Data, Node: ports[1], At: 480},
		}
		if got := table.Slots(two(), part); !slices.Equal(got, want) {
			t.Errorf("P901: Slots of part %d: %v; want %v", part, got, want)
		}
	}
}

// Without links there are no ports, and only the nodes have slots.
func TestSlotsWithoutPorts(t *testing.T) {
	if got, want := table.Slots(one(), 0), []api.Slot{{Kind: api.Sync, Node: 0, At: 3}}; !slices.Equal(got, want) {
		t.Errorf("P901: Slots of a single node: %v; want %v", got, want)
	}
	c := one()
	c.Parts[0] = api.Part{Nodes: 4, Faults: 1}
	want := []api.Slot{{Kind: api.Sync, Node: 0, At: 3}, {Kind: api.Sync, Node: 1, At: 10}, {Kind: api.Sync, Node: 2, At: 17}, {Kind: api.Sync, Node: 3, At: 24}}
	if got := table.Slots(c, 0); !slices.Equal(got, want) {
		t.Errorf("P901: Slots of a part without ports: %v; want %v", got, want)
	}
}

// The ports stand in the order of their nodes, whichever link and gateway they belong to.
func TestSlotsOrderOfPorts(t *testing.T) {
	for part, ports := range [][]int{{0, 1, 3, 4}, {3, 11}, {0, 3}} {
		nodes := map[int][]int{}
		for _, s := range table.Slots(uneven(), part) {
			nodes[s.Kind] = append(nodes[s.Kind], s.Node)
		}
		for _, kind := range []int{api.Gate, api.Member, api.Data} {
			if !slices.Equal(nodes[kind], ports) {
				t.Errorf("P901: the nodes of kind %d of part %d: %v; want %v", kind, part, nodes[kind], ports)
			}
		}
	}
}

func TestSlotsOfNetworks(t *testing.T) {
	for _, x := range fitting(t) {
		for part := range x.c.Parts {
			want := make([]api.Slot, len(places(x.c, part)))
			for s, i := range places(x.c, part) {
				at := x.c.Lead
				for range i {
					at += x.c.Slot
				}
				want[i] = api.Slot{Kind: s[0], Node: s[1], At: at}
			}
			if got := table.Slots(x.c, part); !slices.Equal(got, want) {
				t.Errorf("P901: Slots of part %d of %s: %v; want %v", part, x.name, got, want)
			}
		}
	}
	if n := len(table.Slots(full(), 0)); n != 10+10+12+10 {
		t.Errorf("P901: the slots of a part of 12 nodes of which 10 are ports: %d", n)
	}
}

// All slots lie within the cycle, with their windows, and no two windows meet.
func TestSlotsLieApart(t *testing.T) {
	for _, x := range fitting(t) {
		for part := range x.c.Parts {
			from := 0
			for i, s := range table.Slots(x.c, part) {
				if s.At-x.c.Window < from || s.At+x.c.Window > x.c.Cycle {
					t.Errorf("P901: slot %d of part %d of %s, at %d, meets another one, or lies outside the cycle", i, part, x.name, s.At)
				}
				from = s.At + x.c.Window + 1
			}
		}
	}
}

func TestFindExample(t *testing.T) {
	for _, x := range []struct{ kind, node, want int }{
		{api.Gate, 0, 0},
		{api.Member, 0, 1},
		{api.Gate, 1, 2},
		{api.Member, 1, 3},
		{api.Sync, 0, 4},
		{api.Sync, 3, 7},
		{api.Data, 0, 8},
		{api.Data, 1, 9},
		// Nodes 2 and 3 are no ports in this part, and no node is called 4.
		{api.Gate, 2, -1},
		{api.Member, 3, -1},
		{api.Data, 2, -1},
		{api.Sync, 4, -1},
		{api.Sync, -1, -1},
		{api.Sync, math.MaxInt, -1},
		{api.Sync, math.MinInt, -1},
		// Nothing has a slot of its own but these four kinds.
		{api.Cold, 0, -1},
		{0, 0, -1},
		{-1, 0, -1},
		{6, 0, -1},
		{math.MaxInt, 0, -1},
		{math.MinInt, 0, -1},
	} {
		if got := table.Find(two(), 0, x.kind, x.node); got != x.want {
			t.Errorf("P902: Find of kind %d and node %d: %d; want %d", x.kind, x.node, got, x.want)
		}
	}
}

func TestFindAnyKindAndNode(t *testing.T) {
	for _, x := range fitting(t) {
		for part := range x.c.Parts {
			m := places(x.c, part)
			for kind := -2; kind <= 8; kind++ {
				for node := -2; node <= api.MaxNodes+1; node++ {
					want, ok := m[[2]int{kind, node}]
					if !ok {
						want = -1
					}
					if got := table.Find(x.c, part, kind, node); got != want {
						t.Errorf("P902: Find of kind %d and node %d in part %d of %s: %d; want %d", kind, node, part, x.name, got, want)
					}
				}
			}
		}
	}
}

func TestWhichExample(t *testing.T) {
	for _, x := range []struct{ t, want int }{
		{230, 4},
		{235, 4},
		// Both edges of a window, of the first slot, and of the last one.
		{210, 4},
		{250, 4},
		{209, -1},
		{251, -1},
		{259, -1},
		{260, 5},
		{10, 0},
		{9, -1},
		{50, 0},
		{51, -1},
		{460, 9},
		{500, 9},
		{501, -1},
		{530, -1},
		{0, -1},
		{-10, -1},
		{-30, -1},
		{20030, -1},
		{math.MaxInt, -1},
		{math.MinInt, -1},
		// The differences of these from a slot's time wrap round.
		{math.MinInt + 29, -1},
		{math.MinInt + 230, -1},
		{math.MinInt + 480, -1},
	} {
		if got := table.Which(two(), 0, x.t); got != x.want {
			t.Errorf("P902: Which(%d): %d; want %d", x.t, got, x.want)
		}
	}
}

// With windows that touch, each tick from the first window on belongs to one slot, till the last window ends.
func TestWhichOfWindowsThatTouch(t *testing.T) {
	for x := -40; x < 10*31+40; x++ {
		want := -1
		if x >= 0 && x < 10*31 {
			want = x / 31
		}
		if got := table.Which(tight(), 1, x); got != want {
			t.Errorf("P902: Which(%d) of windows that touch: %d; want %d", x, got, want)
		}
	}
}

// All ticks at which an answer could turn are tried: those about both edges of each window, and wild ones.
func TestWhichAnyTime(t *testing.T) {
	for _, x := range fitting(t) {
		for part := range x.c.Parts {
			slots := table.Slots(x.c, part)
			times := []int{math.MinInt, math.MinInt + 1, math.MinInt + x.c.Window, -x.c.Cycle, -1, 0, 1, x.c.Cycle, math.MaxInt - x.c.Window, math.MaxInt - 1, math.MaxInt}
			for _, s := range slots {
				times = append(times, s.At-x.c.Slot/2, s.At+x.c.Slot/2, math.MinInt+s.At, math.MaxInt-s.At, -s.At)
				for d := -2; d <= 2; d++ {
					times = append(times, s.At-x.c.Window+d, s.At+d, s.At+x.c.Window+d)
				}
			}
			for _, at := range times {
				want := slices.IndexFunc(slots, func(s api.Slot) bool { return off(s.At, at).Cmp(big.NewInt(int64(x.c.Window))) <= 0 })
				if got := table.Which(x.c, part, at); got != want {
					t.Errorf("P902: Which(%d) in part %d of %s: %d; want %d", at, part, x.name, got, want)
				}
			}
		}
	}
}

// none checks that a part has no slots, and that nothing is found among them.
func none(t *testing.T, what string, c api.Config, part int) {
	t.Helper()
	if got := table.Slots(c, part); len(got) != 0 {
		t.Errorf("P901: Slots of part %d of %s: %v; want none", part, what, got)
	}
	for kind := -1; kind <= 6; kind++ {
		if got := table.Find(c, part, kind, 0); got != -1 {
			t.Errorf("P902: Find of kind %d in part %d of %s: %d; want -1", kind, part, what, got)
		}
	}
	for _, at := range []int{math.MinInt, -c.Lead, -1, 0, 1, 230, c.Lead, c.Lead + c.Slot, math.MaxInt} {
		if got := table.Which(c, part, at); got != -1 {
			t.Errorf("P902: Which(%d) in part %d of %s: %d; want -1", at, part, what, got)
		}
	}
}

func TestNoSuchPart(t *testing.T) {
	for _, x := range fitting(t) {
		for _, part := range []int{math.MinInt, -2, -1, len(x.c.Parts), len(x.c.Parts) + 1, api.MaxParts, math.MaxInt} {
			none(t, x.name, x.c, part)
		}
	}
}

func TestNetworksThatDoNotFit(t *testing.T) {
	for _, x := range []struct {
		what string
		bend func(c *api.Config)
		err  api.Errno
		at   int
	}{
		{"no parts", func(c *api.Config) { c.Parts = nil }, api.ErrParts, 0},
		{"a part without nodes", func(c *api.Config) { c.Parts[1].Nodes = 0 }, api.ErrNodes, 1},
		{"too many links", func(c *api.Config) { c.Links = make([]api.Link, api.MaxLinks+1) }, api.ErrLinks, 0},
		{"a link of one part", func(c *api.Config) { c.Links[0].B = 0 }, api.ErrEnds, 0},
		{"a link twice", func(c *api.Config) { c.Links = append(c.Links, c.Links[0]) }, api.ErrTwice, 1},
		{"a port that is no node", func(c *api.Config) { c.Links[0].PortsB[1] = 4 }, api.ErrPorts, 0},
		{"a part apart", func(c *api.Config) { c.Links = nil }, api.ErrApart, 1},
		{"the Cycle 999", func(c *api.Config) { c.Cycle = 999 }, api.ErrRange, 1},
		{"the Drift 501", func(c *api.Config) { c.Drift = 501 }, api.ErrRange, 2},
		{"the Rate -1", func(c *api.Config) { c.Rate = -1 }, api.ErrRange, 3},
		{"the Ages 0", func(c *api.Config) { c.Ages = 0 }, api.ErrRange, 4},
		{"the Lost -1", func(c *api.Config) { c.Lost = -1 }, api.ErrRange, 5},
		{"a Window below Near and Edge", func(c *api.Config) { c.Window = 14 }, api.ErrRange, 6},
		{"the greatest Window of all", func(c *api.Config) { c.Window = math.MaxInt }, api.ErrRange, 6},
		{"a Slot of two Windows", func(c *api.Config) { c.Slot = 40 }, api.ErrRange, 7},
		{"the greatest Slot of all", func(c *api.Config) { c.Slot = math.MaxInt }, api.ErrRange, 7},
		{"a Lead below Window", func(c *api.Config) { c.Lead = 19 }, api.ErrRange, 8},
		{"the least Lead of all", func(c *api.Config) { c.Lead = math.MinInt }, api.ErrRange, 8},
		{"slots that are longer than the cycle", func(c *api.Config) { c.Slot = 1996 }, api.ErrRange, 9},
		{"a Rate too small for Jump", func(c *api.Config) { c.Rate = 16599 }, api.ErrRange, 10},
		{"Ages too small for Lost", func(c *api.Config) { c.Lost, c.Listen, c.Span = 5, 14, 14 }, api.ErrRange, 11},
		{"a Listen too small", func(c *api.Config) { c.Listen = 5 }, api.ErrRange, 12},
		{"a Span too small", func(c *api.Config) { c.Span = 5 }, api.ErrRange, 13},
		{"Listen and Span too great", func(c *api.Config) { c.Listen, c.Span = 20000, 20001 }, api.ErrRange, 14},
		{"the Room 3", func(c *api.Config) { c.Room = 3 }, api.ErrRange, 15},
	} {
		c := copyOf(two())
		x.bend(&c)
		if e, at := bounds.Fits(c); e != x.err || at != x.at {
			t.Errorf("a network with %s: Fits answers %d, %d; the test is about %d, %d", x.what, e, at, x.err, x.at)
		}
		for part := -1; part <= 2; part++ {
			none(t, "a network with "+x.what, c, part)
		}
	}
	none(t, "a network of zeros", api.Config{}, 0)
}

// A part that has room has no slots either, if another part is too long for the cycle.
func TestAnotherPartTooLong(t *testing.T) {
	c := uneven() // part 1 needs 18 slots, part 0 17 and part 2 10
	c.Slot = (c.Cycle - c.Lead - c.Window) / 18
	if n := len(table.Slots(c, 2)); n != 10 {
		t.Errorf("P901: the slots of a part of 4 nodes of which 2 are ports: %d", n)
	}
	c.Slot++
	for part := range c.Parts {
		none(t, "a network with a part that is too long", c, part)
	}
}

// Rule 4: nothing that is handed in is changed, nor what is behind it, and no answer shares memory with another one.
func TestArgumentsAndAnswersStay(t *testing.T) {
	c := uneven()
	parts := append(c.Parts, api.Part{Nodes: 77, Faults: 78})
	links := append(c.Links, api.Link{A: 77, B: 78})
	c.Parts, c.Links = parts[:len(parts)-1], links[:len(links)-1]
	wantParts, wantLinks := slices.Clone(parts), slices.Clone(links)
	for part := range c.Parts {
		first, want := table.Slots(c, part), table.Slots(c, part)
		spoilt := first[:cap(first)]
		for i := range spoilt {
			spoilt[i] = api.Slot{Kind: 99, Node: 99, At: 99}
		}
		if again := table.Slots(c, part); !slices.Equal(again, want) {
			t.Errorf("P901: Slots of part %d the next time: %v; want %v", part, again, want)
		}
		if got := table.Find(c, part, want[0].Kind, want[0].Node); got != 0 {
			t.Errorf("P902: Find after an answer was changed: %d", got)
		}
		if got := table.Which(c, part, want[1].At); got != 1 {
			t.Errorf("P902: Which after an answer was changed: %d", got)
		}
	}
	if !slices.Equal(parts, wantParts) || !slices.Equal(links, wantLinks) {
		t.Errorf("rule 4: an argument was changed: %v, %v", parts, links)
	}
}
