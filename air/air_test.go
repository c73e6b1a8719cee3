package air_test

import (
	"bytes"
	"math"
	"slices"
	"testing"

	"drumline/air"
	"drumline/api"
	"drumline/bounds"
	"drumline/frame"
	"drumline/sum"
	"drumline/table"
)

// two returns the network of the document's examples: two parts of 4 nodes, Lead 30, Slot 50, Window 20, Gone 7. The ports of part 0 are nodes 0 and 1, those of part 1 nodes 2 and 3.
func two() api.Config {
	return api.Config{
		Parts: []api.Part{{Nodes: 4, Faults: 1}, {Nodes: 4, Faults: 1}},
		Links: []api.Link{{A: 0, B: 1, PortsA: [2]int{0, 1}, PortsB: [2]int{2, 3}}},
		Cycle: 20000, Lead: 30, Slot: 50, Window: 20, Drift: 100, Rate: 20000, Ages: 6, Lost: 1, Listen: 6, Span: 6, Room: 4,
	}
}

// one returns the smallest network that fits: a single node without ports.
func one() api.Config {
	return api.Config{
		Parts: []api.Part{{Nodes: 1}},
		Cycle: 1000, Lead: 3, Slot: 7, Window: 3, Rate: 16000, Ages: 1, Listen: 3, Span: 3, Room: 3,
	}
}

// uneven returns parts of 5, 12 and 4 nodes, whose links do not name their ports in ascending order; part 0 has ports of both links.
func uneven() api.Config {
	c := two()
	c.Parts = []api.Part{{Nodes: 5, Faults: 1}, {Nodes: 12, Faults: 3}, {Nodes: 4, Faults: 0}}
	c.Links = []api.Link{
		{A: 0, B: 1, PortsA: [2]int{3, 1}, PortsB: [2]int{11, 3}},
		{A: 0, B: 2, PortsA: [2]int{4, 0}, PortsB: [2]int{0, 3}},
	}
	c.Listen, c.Span, c.Room = 8, 9, 5
	return c
}

// full returns as many parts, nodes and links as may be, and the greatest Ages; each link takes the next two free nodes at its ends, the greater one first.
func full() api.Config {
	c := two()
	c.Parts, c.Links = nil, nil
	var next [api.MaxParts]int
	take := func(part int) [2]int {
		n := next[part]
		next[part] += 2
		return [2]int{n + 1, n}
	}
	for range api.MaxParts {
		c.Parts = append(c.Parts, api.Part{Nodes: api.MaxNodes, Faults: api.MaxFaults})
	}
	for a := range api.MaxParts {
		for b := a + 1; b < api.MaxParts && len(c.Links) < api.MaxLinks; b++ {
			c.Links = append(c.Links, api.Link{A: a, B: b, PortsA: take(a), PortsB: take(b)})
		}
	}
	c.Drift, c.Window, c.Ages, c.Rate, c.Listen, c.Span, c.Room = 0, 20, api.MaxAges, 400000, 14, 15, 8
	return c
}

// long returns the network of two parts with the greatest Window and Cycle.
func long() api.Config {
	c := two()
	c.Cycle, c.Drift, c.Window, c.Slot, c.Lead = 1000000, 0, 20000, 40001, 30000
	return c
}

// networks lists networks that fit.
func networks(t *testing.T) []api.Config {
	t.Helper()
	l := []api.Config{one(), two(), uneven(), full(), long()}
	for i, c := range l {
		if e, at := bounds.Fits(c); e != api.OK {
			t.Fatalf("network %d does not fit: %d, %d", i, e, at)
		}
	}
	return l
}

// copyOf returns a network that shares no list with c.
func copyOf(c api.Config) api.Config {
	c.Parts, c.Links = slices.Clone(c.Parts), slices.Clone(c.Links)
	return c
}

// linkAt returns the number of the link that has the node as a port in the part; -1 if none has.
func linkAt(c api.Config, part, node int) int {
	return slices.IndexFunc(c.Links, func(l api.Link) bool {
		return l.A == part && slices.Contains(l.PortsA[:], node) || l.B == part && slices.Contains(l.PortsB[:], node)
	})
}

// right returns a frame of this kind that may be sent in a part's slot that is its node's.
func right(c api.Config, part, kind, node int) api.Frame {
	f := api.Frame{Kind: kind, Part: part, Node: node}
	ages := make([]int, len(c.Parts))
	for i := range ages {
		ages[i] = (c.Ages + 1) * i / len(ages)
	}
	ages[len(ages)-1] = c.Ages + 1
	switch kind {
	case api.Cold:
		f.Wait = 6
	case api.Sync:
		f.Cycle, f.Mask, f.Ages = 77, 5, ages
	case api.Gate:
		f.Link, f.Flag, f.Cycle, f.Offset = linkAt(c, part, node), true, 78, -9
	case api.Member:
		f.Link, f.Ages = linkAt(c, part, node), ages
	case api.Data:
		f.Link, f.From, f.To, f.Seq, f.Body = linkAt(c, part, node), len(c.Parts)-1, 0, 3, []byte{byte(part), byte(node), 255}
	}
	return f
}

// said returns what is said in a slot at a time: the frame as bytes.
func said(t *testing.T, slot int, at int64, f api.Frame) api.Say {
	t.Helper()
	b, e := frame.Encode(f)
	if e != api.OK {
		t.Fatalf("the frame %+v is not valid", f)
	}
	return api.Say{Slot: slot, Bytes: b, At: at}
}

// hears checks what Heard answers.
func hears(t *testing.T, what string, c api.Config, part int, g api.Guard, ppm int, says []api.Say, lost []int, want []api.Heard, wantBad int) {
	t.Helper()
	got, bad := air.Heard(c, part, g, ppm, says, lost)
	if !slices.EqualFunc(got, want, sameHeard) || bad != wantBad {
		t.Errorf("P1102: %s: Heard answers %+v, %d; want %+v, %d", what, got, bad, want, wantBad)
	}
}

// sameHeard reports whether a and b are equal in all fields.
func sameHeard(a, b api.Heard) bool {
	return a.Slot == b.Slot && a.At == b.At && frame.Same(a.Frame, b.Frame)
}

func TestFitsExample(t *testing.T) {
	if air.Fits(two(), 0, 0, api.Frame{Kind: api.Cold}) {
		t.Error("P1101: a Cold frame fits in a slot of the kind Gate")
	}
}

// kinds lists all that might be taken for the kind of a frame.
func kinds() []int {
	return []int{math.MinInt, -1, 0, api.Cold, api.Sync, api.Gate, api.Member, api.Data, 6, 255, math.MaxInt}
}

// Each slot takes frames of its own kind and node; that of the kind Sync takes Cold ones, too.
func TestFitsKindsAndNodes(t *testing.T) {
	for i, c := range networks(t) {
		for part := range c.Parts {
			for slot, s := range table.Slots(c, part) {
				for _, kind := range kinds() {
					for node := -1; node <= api.MaxNodes; node++ {
						want := node == s.Node && (kind == s.Kind || s.Kind == api.Sync && kind == api.Cold)
						if got := air.Fits(c, part, slot, right(c, part, kind, node)); got != want {
							t.Errorf("P1101: network %d: Fits of kind %d and node %d in slot %d of part %d, %+v: %v", i, kind, node, slot, part, s, got)
						}
					}
				}
			}
		}
	}
}

// bend is a change of a frame that fits, and the kinds that do not fit any more with it.
type bend struct {
	what  string
	how   func(f *api.Frame)
	kinds []int
}

// bends lists changes of the frames that fit in a network of two parts with the Gone 7.
func bends() []bend {
	all := []int{api.Cold, api.Sync, api.Gate, api.Member, api.Data}
	linked, aged := all[2:], []int{api.Sync, api.Member}
	data := []int{api.Data}
	l := []bend{
		{"no change", func(f *api.Frame) {}, nil},
		{"From 0 and To 1", func(f *api.Frame) { f.From, f.To = 0, 1 }, nil},
		{"From 1 and To 1", func(f *api.Frame) { f.From, f.To = 1, 1 }, data},
		{"From 0 and To 0", func(f *api.Frame) { f.From, f.To = 0, 0 }, data},
		{"From 2 and To 2", func(f *api.Frame) { f.From, f.To = 2, 2 }, data},
		{"From -1 and To 2", func(f *api.Frame) { f.From, f.To = -1, 2 }, data},
		// What a frame has beside these is not asked for, be it valid or not.
		{"a wild Wait", func(f *api.Frame) { f.Wait = math.MaxInt }, nil},
		{"a wild Cycle", func(f *api.Frame) { f.Cycle = math.MinInt64 }, nil},
		{"a wild Offset", func(f *api.Frame) { f.Offset = math.MaxInt64 }, nil},
		{"a wild Mask", func(f *api.Frame) { f.Mask = -1 }, nil},
		{"the other Flag", func(f *api.Frame) { f.Flag = !f.Flag }, nil},
		{"no Seq", func(f *api.Frame) { f.Seq = 0 }, nil},
		{"a long Body", func(f *api.Frame) { f.Body = make([]byte, api.MaxBody+1) }, nil},
	}
	for _, n := range []int{math.MinInt, -1, 2, 3, api.MaxParts, math.MaxInt} {
		l = append(l,
			bend{"another Part", func(f *api.Frame) { f.Part = n }, all},
			bend{"a From that is no part", func(f *api.Frame) { f.From = n }, data},
			bend{"a To that is no part", func(f *api.Frame) { f.To = n }, data},
		)
	}
	l = append(l, bend{"the other Part", func(f *api.Frame) { f.Part = 1 - f.Part }, all})
	for _, n := range []int{math.MinInt, -2, -1, 1, 2, api.MaxLinks, math.MaxInt} {
		l = append(l, bend{"another Link", func(f *api.Frame) { f.Link = n }, linked})
	}
	for _, ages := range [][]int{{0, 0}, {7, 7}, {0, 7}, {7, 0}, {6, 1}} {
		l = append(l, bend{"good Ages", func(f *api.Frame) { f.Ages = ages }, nil})
	}
	for _, ages := range [][]int{nil, {}, {0}, {0, 0, 0}, {7, 7, 7}, {8, 0}, {0, 8}, {-1, 0}, {0, -1}, {math.MinInt, 0}, {0, math.MaxInt}, {201, 201}, make([]int, 100000)} {
		l = append(l, bend{"wrong Ages", func(f *api.Frame) { f.Ages = ages }, aged})
	}
	return l
}

func TestFitsFields(t *testing.T) {
	c := two()
	for part := range c.Parts {
		for slot, s := range table.Slots(c, part) {
			for _, kind := range []int{s.Kind, api.Cold} {
				if kind == api.Cold && s.Kind != api.Sync {
					continue
				}
				for _, x := range bends() {
					f := right(c, part, kind, s.Node)
					x.how(&f)
					want := !slices.Contains(x.kinds, kind)
					if got := air.Fits(c, part, slot, f); got != want {
						t.Errorf("P1101: Fits of %s in slot %d of part %d, %+v: %v", x.what, slot, part, f, got)
					}
				}
			}
		}
	}
}

// Where a part has ports of several links, each port takes its own link alone.
func TestFitsLinks(t *testing.T) {
	for i, c := range networks(t) {
		for part := range c.Parts {
			for slot, s := range table.Slots(c, part) {
				f := right(c, part, s.Kind, s.Node)
				for link := -1; link <= api.MaxLinks; link++ {
					f.Link = link
					want := s.Kind == api.Sync || link == linkAt(c, part, s.Node)
					if got := air.Fits(c, part, slot, f); got != want {
						t.Errorf("P1101: network %d: Fits of link %d in slot %d of part %d: %v", i, link, slot, part, got)
					}
				}
			}
		}
	}
}

// The ages that fit are as many as parts, and at most Gone, whatever a valid frame may have beside.
func TestFitsAges(t *testing.T) {
	for i, c := range networks(t) {
		for slot, s := range table.Slots(c, 0) {
			if s.Kind != api.Sync && s.Kind != api.Member {
				continue
			}
			f := right(c, 0, s.Kind, s.Node)
			for n := range api.MaxParts + 2 {
				f.Ages = slices.Repeat([]int{c.Ages + 1}, n)
				if got := air.Fits(c, 0, slot, f); got != (n == len(c.Parts)) {
					t.Errorf("P1101: network %d: Fits of %d ages in slot %d: %v", i, n, slot, got)
				}
			}
			for at := range c.Parts {
				f.Ages = slices.Repeat([]int{0}, len(c.Parts))
				for age, want := range map[int]bool{-1: false, 0: true, c.Ages: true, c.Ages + 1: true, c.Ages + 2: false} {
					f.Ages[at] = age
					if got := air.Fits(c, 0, slot, f); got != want {
						t.Errorf("P1101: network %d: Fits of the age %d of part %d in slot %d: %v", i, age, at, slot, got)
					}
				}
			}
		}
	}
}

// In each network, a message is from any part to any other one.
func TestFitsFromAndTo(t *testing.T) {
	for i, c := range networks(t) {
		for slot, s := range table.Slots(c, 0) {
			if s.Kind != api.Data {
				continue
			}
			f := right(c, 0, s.Kind, s.Node)
			for f.From = -1; f.From <= api.MaxParts; f.From++ {
				for f.To = -1; f.To <= api.MaxParts; f.To++ {
					is := f.From >= 0 && f.To >= 0 && f.From < len(c.Parts) && f.To < len(c.Parts)
					if got := air.Fits(c, 0, slot, f); got != (is && f.From != f.To) {
						t.Errorf("P1101: network %d: Fits from %d to %d in slot %d: %v", i, f.From, f.To, slot, got)
					}
				}
			}
		}
	}
}

// fitting lists what fits somewhere in a network: frames of each part and node.
func fitting(c api.Config) []api.Frame {
	l := []api.Frame{{}}
	for part := range c.Parts {
		for _, s := range table.Slots(c, part) {
			l = append(l, right(c, part, s.Kind, s.Node))
			if s.Kind == api.Sync {
				l = append(l, right(c, part, api.Cold, s.Node))
			}
		}
	}
	return l
}

// nothing checks that no frame fits in any slot of a part, and that nothing is heard there.
func nothing(t *testing.T, what string, c api.Config, part int) {
	t.Helper()
	var says []api.Say
	for _, f := range fitting(two()) {
		f.Part = part
		for slot := -1; slot <= 11; slot++ {
			if air.Fits(c, part, slot, f) {
				t.Errorf("P1101: %s: %+v fits in slot %d of part %d", what, f, slot, part)
			}
		}
	}
	for slot := -1; slot <= 50; slot++ {
		says = append(says, api.Say{Slot: slot})
	}
	for _, g := range []api.Guard{{}, {On: true}, {On: true, Start: 1000}} {
		hears(t, what, c, part, g, 0, says, nil, nil, 0)
		hears(t, what, c, part, g, 0, nil, nil, nil, 0)
	}
}

func TestNoSuchPart(t *testing.T) {
	for _, part := range []int{math.MinInt, -2, -1, 2, 3, api.MaxParts, math.MaxInt} {
		nothing(t, "no such part", two(), part)
	}
}

func TestNoSuchSlot(t *testing.T) {
	for _, f := range fitting(two()) {
		for _, slot := range []int{math.MinInt, -10, -1, 10, 11, 18, math.MaxInt} {
			if air.Fits(two(), f.Part, slot, f) {
				t.Errorf("P1101: %+v fits in slot %d, of which there is none", f, slot)
			}
		}
	}
}

func TestNetworksThatDoNotFit(t *testing.T) {
	for _, x := range []struct {
		what string
		how  func(c *api.Config)
	}{
		{"no parts", func(c *api.Config) { c.Parts = nil }},
		{"a part without nodes", func(c *api.Config) { c.Parts[1].Nodes = 0 }},
		{"a link of one part", func(c *api.Config) { c.Links[0].B = 0 }},
		{"a port that is no node", func(c *api.Config) { c.Links[0].PortsB[1] = 4 }},
		{"a part apart", func(c *api.Config) { c.Links = nil }},
		{"the Cycle 999", func(c *api.Config) { c.Cycle = 999 }},
		{"the Drift 501", func(c *api.Config) { c.Drift = 501 }},
		{"the Ages 0", func(c *api.Config) { c.Ages = 0 }},
		// These are in range, but do not fit.
		{"a Window below Near and Edge", func(c *api.Config) { c.Window = 14 }},
		{"a Slot of two Windows", func(c *api.Config) { c.Slot = 40 }},
		{"a Rate too small for Jump", func(c *api.Config) { c.Rate = 16599 }},
		{"a Listen too small", func(c *api.Config) { c.Listen = 5 }},
		{"a Room too small", func(c *api.Config) { c.Room = 3 }},
		{"the greatest Room of all", func(c *api.Config) { c.Room = math.MaxInt }},
	} {
		c := copyOf(two())
		x.how(&c)
		for part := -1; part <= 2; part++ {
			nothing(t, x.what, c, part)
		}
	}
	nothing(t, "a network of zeros", api.Config{}, 0)
}

func TestHeardExample(t *testing.T) {
	for slot := range 10 {
		hears(t, "a say of no bytes", two(), 0, api.Guard{}, 0, []api.Say{{Slot: slot}}, nil, nil, 1)
	}
	hears(t, "nothing said", two(), 0, api.Guard{}, 0, nil, nil, nil, 0)
}

// bus returns what all nodes of a part say in all their slots at the right time, of a cycle that begins at start, and that as it is heard.
func bus(t *testing.T, c api.Config, part int, start int64) ([]api.Say, []api.Heard) {
	t.Helper()
	var says []api.Say
	var heard []api.Heard
	for slot, s := range table.Slots(c, part) {
		f := right(c, part, s.Kind, s.Node)
		if s.Kind == api.Sync && s.Node%2 == 1 {
			f = right(c, part, api.Cold, s.Node)
		}
		at := start + int64(s.At)
		says = append(says, said(t, slot, at, f))
		heard = append(heard, api.Heard{Slot: slot, Frame: f, At: at})
	}
	return says, heard
}

// In whichever order frames are said, they are heard in the order of their slots.
func TestHeardAll(t *testing.T) {
	for _, c := range networks(t) {
		for part := range c.Parts {
			says, want := bus(t, c, part, 1000)
			for _, g := range []api.Guard{{}, {On: true, Start: 1000}, {On: true, Start: 1000, Ages: []int{-5}}} {
				hears(t, "in order", c, part, g, 0, says, nil, want, 0)
				slices.Reverse(says)
				hears(t, "backwards", c, part, g, 0, says, nil, want, 0)
				half := len(says) / 2
				says = slices.Concat(says[half:], says[:half])
				hears(t, "in two halves", c, part, g, 0, says, nil, want, 0)
			}
		}
	}
}

// What is said first in a slot takes it, whatever becomes of it.
func TestHeardFirstCounts(t *testing.T) {
	c := two()
	on := api.Guard{On: true, Start: 1000}
	good := said(t, 4, 1230, right(c, 0, api.Sync, 0))
	cold := said(t, 4, 1231, right(c, 0, api.Cold, 0))
	late := said(t, 4, 1251, right(c, 0, api.Sync, 0))
	foreign := said(t, 4, 1230, right(c, 0, api.Sync, 1))
	none := api.Say{Slot: 4, At: 1230}
	heard := func(x api.Say) []api.Heard {
		f, _ := frame.Decode(x.Bytes)
		return []api.Heard{{Slot: 4, Frame: f, At: x.At}}
	}
	for _, x := range []struct {
		what string
		says []api.Say
		want []api.Heard
		bad  int
	}{
		{"two good ones", []api.Say{good, cold}, heard(good), 0},
		{"two good ones, the other way", []api.Say{cold, good}, heard(cold), 0},
		{"a good one twice", []api.Say{good, good}, heard(good), 0},
		{"good, then bad", []api.Say{good, none, foreign, late}, heard(good), 0},
		{"no bytes, then good", []api.Say{none, good}, nil, 1},
		{"another node's, then good", []api.Say{foreign, good, none}, nil, 1},
		{"too late, then good", []api.Say{late, good}, nil, 0},
		{"too late, then bad", []api.Say{late, none}, nil, 0},
	} {
		hears(t, x.what, c, 0, on, 0, x.says, nil, x.want, x.bad)
		hears(t, x.what+", lost", c, 0, on, 0, x.says, []int{4}, nil, 0)
		// What is said in another slot does not count for this one.
		other := said(t, 5, 1280, right(c, 0, api.Cold, 1))
		f, _ := frame.Decode(other.Bytes)
		want := append(slices.Clone(x.want), api.Heard{Slot: 5, Frame: f, At: 1280})
		hears(t, x.what+", behind another slot", c, 0, on, 0, slices.Concat([]api.Say{other}, x.says), nil, want, x.bad)
	}
}

// What is said in no slot at all is ignored, and not counted.
func TestHeardOtherSlots(t *testing.T) {
	says, want := bus(t, two(), 0, 0)
	for _, slot := range []int{math.MinInt, -10, -1, 10, 11, 1 << 32, 1<<32 + 4, math.MaxInt} {
		more := api.Say{Slot: slot, Bytes: says[4].Bytes, At: says[4].At}
		hears(t, "a slot beside", two(), 0, api.Guard{}, 0, []api.Say{more, {Slot: slot}}, nil, nil, 0)
		hears(t, "a slot beside all", two(), 0, api.Guard{}, 0, slices.Concat([]api.Say{more}, says, []api.Say{more}), nil, want, 0)
	}
	// Slot 10 of part 0 of this network is one of its own.
	c := uneven()
	says, want = bus(t, c, 0, 0)
	hears(t, "slot 10", c, 0, api.Guard{}, 0, says[10:11], nil, want[10:11], 0)
}

// Of each set of slots that are lost, nothing is heard or counted, and all else is.
func TestHeardLost(t *testing.T) {
	c := two()
	says, heard := bus(t, c, 0, 1000)
	says[2].Bytes, says[7].Bytes = nil, []byte("no frame at all")
	for set := range 1 << 10 {
		var lost []int
		var want []api.Heard
		bad := 0
		for slot := range 10 {
			switch {
			case set>>slot&1 == 1:
				lost = append(lost, slot)
			case slot == 2 || slot == 7:
				bad++
			default:
				want = append(want, heard[slot])
			}
		}
		hears(t, "lost slots", c, 0, api.Guard{}, 0, says, lost, want, bad)
		slices.Reverse(lost)
		lost = slices.Concat([]int{-1, 10, math.MinInt}, lost, []int{math.MaxInt}, lost)
		hears(t, "lost slots, and none", c, 0, api.Guard{On: true, Start: 1000}, 0, says, lost, want, bad)
	}
}

// A guardian that is on passes what is within the Window of its slot, and nothing else is heard or counted.
func TestHeardGuard(t *testing.T) {
	c := two()
	for _, x := range []struct {
		slot  int
		start int64
		ppm   int
		at    int64
		pass  bool
	}{
		// Both edges of a window, in slots 4 and 9, which are at 230 and 480.
		{4, 1000, 0, 1230, true},
		{4, 1000, 0, 1210, true},
		{4, 1000, 0, 1209, false},
		{4, 1000, 0, 1250, true},
		{4, 1000, 0, 1251, false},
		{4, 1000, 0, 1280, false},
		{4, 1000, 0, 230, false},
		{9, 1000, 0, 1460, true},
		{9, 1000, 0, 1459, false},
		{9, 1000, 0, 1500, true},
		{9, 1000, 0, 1501, false},
		{4, -1000, 0, -790, true},
		{4, -1000, 0, -791, false},
		// The guardian's clock tells where the window lies: at 207 if it is a tenth fast, at 253 if it is a tenth slow.
		{4, 1000, 100000, 1187, true},
		{4, 1000, 100000, 1186, false},
		{4, 1000, 100000, 1227, true},
		{4, 1000, 100000, 1228, false},
		{4, 1000, -100000, 1233, true},
		{4, 1000, -100000, 1232, false},
		{4, 1000, -100000, 1273, true},
		{4, 1000, -100000, 1274, false},
		// A rate that is none counts as 0.
		{4, 1000, api.Million + 1, 1230, true},
		{4, 1000, math.MinInt, 1250, true},
		{4, 1000, math.MaxInt, 1251, false},
		// The edges of what is a time.
		{4, api.MaxTicks - 230, 0, api.MaxTicks, true},
		{4, api.MaxTicks - 230, 0, api.MaxTicks + 1, false},
		{4, -api.MaxTicks, 0, 230 - api.MaxTicks, true},
		{4, api.MaxTicks + 1, 0, api.MaxTicks, false},
		{4, -api.MaxTicks - 1, 0, 229 - api.MaxTicks, false},
		{4, 1000, 0, math.MinInt64, false},
		{4, 1000, 0, math.MaxInt64, false},
		{4, math.MaxInt64, 0, math.MaxInt64, false},
		{4, math.MinInt64, 0, math.MinInt64, false},
	} {
		g := api.Guard{On: true, Start: x.start}
		f := right(c, 0, table.Slots(c, 0)[x.slot].Kind, table.Slots(c, 0)[x.slot].Node)
		says := []api.Say{said(t, x.slot, x.at, f)}
		all := []api.Heard{{Slot: x.slot, Frame: f, At: x.at}}
		none := []api.Say{{Slot: x.slot, At: x.at}}
		want, bad := all, 1
		if !x.pass {
			want, bad = nil, 0
		}
		hears(t, "with a guardian", c, 0, g, x.ppm, says, nil, want, 0)
		hears(t, "no bytes, with a guardian", c, 0, g, x.ppm, none, nil, nil, bad)
		// A guardian that is not on passes whatever is said, at whatever time.
		g.On = false
		hears(t, "without a guardian", c, 0, g, x.ppm, says, nil, all, 0)
		hears(t, "no bytes, without a guardian", c, 0, g, x.ppm, none, nil, nil, 1)
	}
}

// The Window is the network's own.
func TestHeardWindow(t *testing.T) {
	for _, window := range []int{15, 16, 24} {
		c := two()
		c.Window = window
		for off := -40; off <= 40; off++ {
			says, want := bus(t, c, 1, int64(off))
			if off < -window || off > window {
				want = nil
			}
			hears(t, "a window", c, 1, api.Guard{On: true}, 0, says, nil, want, 0)
		}
	}
	c := long()
	for off, pass := range map[int64]bool{-20001: false, -20000: true, 20000: true, 20001: false} {
		says, want := bus(t, c, 0, off)
		if !pass {
			want = nil
		}
		hears(t, "the greatest window", c, 0, api.Guard{On: true}, 0, says, nil, want, 0)
	}
}

// Bytes that are no frame are bad: each error of frame.Decode.
func TestHeardNoFrames(t *testing.T) {
	c := two()
	cold := []byte{api.Cold, 0, 0, 0, 6}
	spoilt := sum.Seal(cold)
	spoilt[4]++
	for i, b := range [][]byte{
		nil,
		{},
		cold,
		spoilt,
		sum.Seal(nil),
		sum.Seal([]byte{0, 0, 0, 0, 6}),
		sum.Seal([]byte{6, 0, 0, 0, 6}),
		sum.Seal(cold[:4]),
		sum.Seal([]byte{api.Cold, 0, 0, 0xff, 0xff}),
		sum.Seal(append(cold, 0)),
		append(sum.Seal(cold), 0),
		bytes.Repeat([]byte{255}, api.MaxBytes),
		make([]byte, 100000),
	} {
		if _, e := frame.Decode(b); e == api.OK {
			t.Fatalf("case %d is a frame", i)
		}
		hears(t, "no frame", c, 0, api.Guard{}, 0, []api.Say{{Slot: 4, Bytes: b, At: 230}}, nil, nil, 1)
		hears(t, "no frame, twice", c, 0, api.Guard{}, 0, []api.Say{{Slot: 4, Bytes: b}, {Slot: 4, Bytes: b}}, nil, nil, 1)
		hears(t, "no frames in two slots", c, 0, api.Guard{}, 0, []api.Say{{Slot: 9, Bytes: b}, {Slot: 0, Bytes: b}}, nil, nil, 2)
	}
	says := []api.Say{{Slot: 4, Bytes: sum.Seal(cold), At: 230}}
	hears(t, "a frame", c, 0, api.Guard{}, 0, says, nil, []api.Heard{{Slot: 4, Frame: api.Frame{Kind: api.Cold, Wait: 6}, At: 230}}, 0)
}

// Frames that do not fit are bad; each frame that fits somewhere is tried in all slots of all parts.
func TestHeardOnlyWhatFits(t *testing.T) {
	for _, c := range []api.Config{one(), two(), uneven()} {
		for _, f := range fitting(c)[1:] {
			for part := range c.Parts {
				for slot := range table.Slots(c, part) {
					x := said(t, slot, 5, f)
					if air.Fits(c, part, slot, f) {
						hears(t, "a frame that fits", c, part, api.Guard{}, 0, []api.Say{x}, nil, []api.Heard{{Slot: slot, Frame: f, At: 5}}, 0)
					} else {
						hears(t, "a frame that does not fit", c, part, api.Guard{}, 0, []api.Say{x}, nil, nil, 1)
					}
				}
			}
		}
	}
}

// Each reason why a valid frame does not fit makes it bad, too.
func TestHeardBentFrames(t *testing.T) {
	c := two()
	for slot, s := range table.Slots(c, 0) {
		for _, x := range bends() {
			f := right(c, 0, s.Kind, s.Node)
			x.how(&f)
			if !frame.May(f) {
				continue
			}
			says := []api.Say{said(t, slot, 7, f)}
			if slices.Contains(x.kinds, s.Kind) {
				hears(t, x.what, c, 0, api.Guard{}, 0, says, nil, nil, 1)
			} else {
				hears(t, x.what, c, 0, api.Guard{}, 0, says, nil, []api.Heard{{Slot: slot, Frame: f, At: 7}}, 0)
			}
		}
	}
}

// Rule 4: no answer shares memory with what was handed in, nor with another list.
func TestAnswersAreNew(t *testing.T) {
	for _, c := range networks(t) {
		says, want := bus(t, c, 0, 0)
		got, _ := air.Heard(c, 0, api.Guard{}, 0, says, nil)
		for _, x := range says {
			clear(x.Bytes[:cap(x.Bytes)])
		}
		// Each list is held against what it must be, and then spoilt to its end.
		for i, h := range got {
			if !sameHeard(h, want[i]) {
				t.Fatalf("rule 4: %+v shares memory; want %+v", h, want[i])
			}
			ages, body := h.Frame.Ages[:cap(h.Frame.Ages)], h.Frame.Body[:cap(h.Frame.Body)]
			for k := range ages {
				ages[k] = -99
			}
			for k := range body {
				body[k] = 99
			}
		}
		clear(got[:cap(got)])
		says, want = bus(t, c, 0, 0)
		hears(t, "after an answer was changed", c, 0, api.Guard{}, 0, says, nil, want, 0)
	}
}

// Rule 4: nothing that is handed in is changed, nor what is behind it.
func TestArgumentsStay(t *testing.T) {
	c := uneven()
	parts, links := append(c.Parts, api.Part{Nodes: 77}), append(c.Links, api.Link{A: 77})
	c.Parts, c.Links = parts[:len(parts)-1], links[:len(links)-1]
	wantParts, wantLinks := slices.Clone(parts), slices.Clone(links)
	all, _ := bus(t, c, 0, 1000)
	slices.Reverse(all)
	all[3].Bytes = []byte("no frame at all")
	says := all[:len(all)-1]
	bare := slices.Clone(all)
	for i := range bare {
		bare[i].Bytes = bytes.Clone(all[i].Bytes)
	}
	lost := []int{9, 3, 9, -1, 77}
	ages := []int{4, 5, 6}
	g := api.Guard{On: true, Start: 1000, Ages: ages[:2]}
	first, firstBad := air.Heard(c, 0, g, 50, says, lost[:4])
	again, againBad := air.Heard(c, 0, g, 50, says, lost[:4])
	if !slices.EqualFunc(first, again, sameHeard) || firstBad != againBad {
		t.Errorf("rule 5: Heard answers %+v, %d, and then %+v, %d", first, firstBad, again, againBad)
	}
	f := right(c, 0, api.Member, 1)
	f.Ages = append(f.Ages, 77)[:len(f.Ages)]
	wantAges := slices.Clone(f.Ages[:len(f.Ages)+1])
	air.Fits(c, 0, 3, f)
	same := slices.EqualFunc(all, bare, func(a, b api.Say) bool {
		return a.Slot == b.Slot && a.At == b.At && bytes.Equal(a.Bytes, b.Bytes)
	})
	if !same || !slices.Equal(lost, []int{9, 3, 9, -1, 77}) || !slices.Equal(ages, []int{4, 5, 6}) ||
		!slices.Equal(parts, wantParts) || !slices.Equal(links, wantLinks) || !slices.Equal(f.Ages[:len(f.Ages)+1], wantAges) {
		t.Error("rule 4: an argument was changed")
	}
}
