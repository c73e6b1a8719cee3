package gauge_test

import (
	"math"
	"math/big"
	"slices"
	"testing"

	"drumline/api"
	"drumline/bounds"
	"drumline/gauge"
	"drumline/table"
)

// two returns the network of the document's examples: two parts of 4 nodes, Lead 30, Slot 50, Window 20.
func two() api.Config {
	return api.Config{
		Parts: []api.Part{{Nodes: 4, Faults: 1}, {Nodes: 4, Faults: 1}},
		Links: []api.Link{{A: 0, B: 1, PortsA: [2]int{0, 1}, PortsB: [2]int{2, 3}}},
		Cycle: 20000, Lead: 30, Slot: 50, Window: 20, Drift: 100, Rate: 20000, Ages: 6, Lost: 1, Listen: 6, Span: 6, Room: 4,
	}
}

// one returns the smallest network that fits: a single node without ports.
func one() api.Config {
	return api.Config{
		Parts: []api.Part{{Nodes: 1}},
		Cycle: 1000, Lead: 3, Slot: 7, Window: 3, Rate: 16000, Ages: 1, Listen: 3, Span: 3, Room: 3,
	}
}

// uneven returns parts of 5, 12 and 4 nodes, which have 2, 4 and 2 ports, and so 11, 24 and 10 slots.
func uneven() api.Config {
	c := two()
	c.Parts = []api.Part{{Nodes: 5, Faults: 1}, {Nodes: 12, Faults: 3}, {Nodes: 4, Faults: 0}}
	c.Links = []api.Link{
		{A: 0, B: 1, PortsA: [2]int{3, 1}, PortsB: [2]int{11, 3}},
		{A: 1, B: 2, PortsA: [2]int{4, 0}, PortsB: [2]int{0, 3}},
	}
	c.Listen, c.Span, c.Room = 8, 9, 5
	return c
}

// long returns the network of two parts with the greatest Window and Cycle, whose slots lie farthest from one another.
func long() api.Config {
	c := two()
	c.Cycle, c.Drift, c.Window, c.Slot, c.Lead = 1000000, 0, 20000, 40001, 30000
	return c
}

// networks lists networks that fit.
func networks(t *testing.T) []api.Config {
	t.Helper()
	l := []api.Config{one(), two(), uneven(), long()}
	for i, c := range l {
		if e, at := bounds.Fits(c); e != api.OK {
			t.Fatalf("network %d does not fit: %d, %d", i, e, at)
		}
	}
	return l
}

// times lists numbers of every size: times, those about the edges of what is a time, and wild ones.
func times() []int64 {
	l := []int64{math.MinInt64, math.MinInt64 + 1, math.MaxInt64 - 1, math.MaxInt64}
	for _, n := range []int64{0, 1, 230, 1000, 20000, 123456789012, api.MaxTicks - 1, api.MaxTicks, api.MaxTicks + 1, 2 * api.MaxTicks, 1 << 62} {
		l = append(l, n, -n)
	}
	return l
}

// rates lists parts of a million of every size, likewise.
func rates() []int {
	l := []int{math.MinInt, math.MaxInt}
	for _, n := range []int{0, 1, 100, api.MaxDrift, 333333, api.Million - 1, api.Million, api.Million + 1} {
		l = append(l, n, -n)
	}
	return l
}

// in reports whether v is in the range least to most.
func in(v, least, most int64) bool { return v >= least && v <= most }

// isTime reports whether v is a time.
func isTime(v int64) bool { return in(v, -api.MaxTicks, api.MaxTicks) }

// begin works Begin out with numbers of any size; false where the chapter refuses the arguments.
func begin(at, ppm int, arrival int64) (*big.Int, bool) {
	if !isTime(int64(at)) || !isTime(arrival) {
		return nil, false
	}
	gain := new(big.Int)
	if in(int64(ppm), -api.Million, api.Million) {
		gain.Mul(big.NewInt(int64(at)), big.NewInt(int64(ppm)))
		// Div leaves a remainder that is never negative, so it rounds down.
		gain.Div(gain, big.NewInt(api.Million))
	}
	b := new(big.Int).Sub(big.NewInt(arrival), big.NewInt(int64(at)))
	return b.Add(b, gain), true
}

// differs reports whether an answer is another one than the number and ok, or than 0 and false.
func differs(got int64, is bool, want *big.Int, ok bool) bool {
	if !ok {
		return got != 0 || is
	}
	return !is || want.Cmp(big.NewInt(got)) != 0
}

func TestBeginExamples(t *testing.T) {
	for _, x := range []struct {
		at, ppm       int
		arrival, want int64
	}{
		{230, 0, 1233, 1003},
		{230, 0, 1230, 1000},
		{230, 0, 1227, 997},
		{230, 0, 0, -230},
		{0, 0, 1233, 1233},
		{0, 0, 0, 0},
		{230, 0, -770, -1000},
		{-230, 0, 770, 1000},
		// A clock that is fast reaches at sooner, so that the cycle began later.
		{20000, 100, 20000, 2},
		{20000, 100, 21000, 1002},
		{20000, -100, 20000, -2},
		{20000, -100, 21000, 998},
		// What a clock gains is rounded down, toward less, not toward 0.
		{1, 1, 1, 0},
		{1, -1, 1, -1},
		{-1, 1, 1, 1},
		{-1, -1, 1, 2},
		{500, api.Million, 3, 3},
		{500, -api.Million, 3, -997},
		// A rate that is none counts as 0.
		{500, api.Million + 1, 503, 3},
		{500, -api.Million - 1, 503, 3},
		{500, math.MaxInt, 503, 3},
		{500, math.MinInt, 503, 3},
		// The edges of what is a time; the answer need not be one.
		{0, 0, api.MaxTicks, api.MaxTicks},
		{0, 0, -api.MaxTicks, -api.MaxTicks},
		{api.MaxTicks, 0, api.MaxTicks, 0},
		{-api.MaxTicks, 0, -api.MaxTicks, 0},
		{-api.MaxTicks, 0, api.MaxTicks, 2 * api.MaxTicks},
		{api.MaxTicks, 0, -api.MaxTicks, -2 * api.MaxTicks},
		{-api.MaxTicks, -api.Million, api.MaxTicks, 3 * api.MaxTicks},
		{api.MaxTicks, -api.Million, -api.MaxTicks, -3 * api.MaxTicks},
		{api.MaxTicks, api.Million, api.MaxTicks, api.MaxTicks},
	} {
		if got, ok := gauge.Begin(x.at, x.ppm, x.arrival); got != x.want || !ok {
			t.Errorf("P1201: Begin(%d, %d, %d) = %d, %v; want %d, true", x.at, x.ppm, x.arrival, got, ok, x.want)
		}
	}
}

func TestLateExamples(t *testing.T) {
	for _, x := range []struct {
		start         int64
		at, ppm       int
		arrival, want int64
	}{
		{1000, 230, 0, 1233, 3},
		{1000, 230, 0, 1230, 0},
		{1000, 230, 0, 1227, -3},
		{1000, 230, 0, 1000, -230},
		{0, 230, 0, 1233, 1003},
		{-1000, 230, 0, -767, 3},
		{1000, -230, 0, 770, 0},
		{1000, 20000, 100, 21000, 2},
		{1000, 20000, -100, 21000, -2},
		{1000, 500, api.Million + 1, 1503, 3},
		// Neither what Begin answers nor the difference need be a time.
		{api.MaxTicks, 0, 0, api.MaxTicks, 0},
		{-api.MaxTicks, 0, 0, -api.MaxTicks, 0},
		{-api.MaxTicks, 0, 0, api.MaxTicks, 2 * api.MaxTicks},
		{-api.MaxTicks, -api.MaxTicks, 0, api.MaxTicks, 3 * api.MaxTicks},
		{-api.MaxTicks, -api.MaxTicks, -api.Million, api.MaxTicks, 4 * api.MaxTicks},
		{api.MaxTicks, api.MaxTicks, -api.Million, -api.MaxTicks, -4 * api.MaxTicks},
	} {
		if got, ok := gauge.Late(x.start, x.at, x.ppm, x.arrival); got != x.want || !ok {
			t.Errorf("P1201: Late(%d, %d, %d, %d) = %d, %v; want %d, true", x.start, x.at, x.ppm, x.arrival, got, ok, x.want)
		}
	}
}

// What is no time is refused wherever it stands, even where the sum would be a time again.
func TestBeginLateRefuse(t *testing.T) {
	for _, far := range []int64{api.MaxTicks + 1, -api.MaxTicks - 1, 2 * api.MaxTicks, math.MaxInt64, math.MinInt64} {
		for _, near := range []int64{0, 230, api.MaxTicks, -api.MaxTicks} {
			for _, x := range []struct{ start, at, arrival int64 }{
				{near, far, near},
				{near, near, far},
				{near, far, far},
				{far, near, near},
				{far, far, near},
				{far, near, far},
				{far, far, far},
			} {
				begun := x.at != far && x.arrival != far
				if got, ok := gauge.Begin(int(x.at), 0, x.arrival); !begun && (got != 0 || ok) {
					t.Errorf("P1201: Begin(%d, 0, %d) = %d, %v; want 0, false", x.at, x.arrival, got, ok)
				} else if begun && !ok {
					t.Errorf("P1201: Begin(%d, 0, %d) = %d, %v; want true", x.at, x.arrival, got, ok)
				}
				if got, ok := gauge.Late(x.start, int(x.at), 0, x.arrival); got != 0 || ok {
					t.Errorf("P1201: Late(%d, %d, 0, %d) = %d, %v; want 0, false", x.start, x.at, x.arrival, got, ok)
				}
			}
		}
	}
}

func TestBeginLateAnyNumbers(t *testing.T) {
	good := 0
	for _, at := range times() {
		for _, arrival := range times() {
			for _, ppm := range rates() {
				want, ok := begin(int(at), ppm, arrival)
				if got, is := gauge.Begin(int(at), ppm, arrival); differs(got, is, want, ok) {
					t.Fatalf("P1201: Begin(%d, %d, %d) = %d, %v; want %v, %v", at, ppm, arrival, got, is, want, ok)
				}
				for _, start := range times() {
					late, known := new(big.Int), ok && isTime(start)
					if known {
						late.Sub(want, big.NewInt(start))
						good++
					}
					if got, is := gauge.Late(start, int(at), ppm, arrival); differs(got, is, late, known) {
						t.Fatalf("P1201: Late(%d, %d, %d, %d) = %d, %v; want %v, %v", start, at, ppm, arrival, got, is, late, known)
					}
				}
			}
		}
	}
	if good < 1000 {
		t.Errorf("only %d of the arguments were in their ranges", good)
	}
}

// begins checks what Begins answers.
func begins(t *testing.T, what string, c api.Config, part, ppm int, l []api.Heard, want ...int64) {
	t.Helper()
	if got := gauge.Begins(c, part, ppm, l); !slices.Equal(got, want) {
		t.Errorf("P1202: %s: Begins of part %d by %d = %v; want %v", what, part, ppm, got, want)
	}
}

func TestBeginsExamples(t *testing.T) {
	c := two()
	begins(t, "nothing", c, 0, 0, nil)
	begins(t, "nothing", c, 0, 0, []api.Heard{})
	begins(t, "slot 4", c, 0, 0, []api.Heard{{Slot: 4, At: 1233}}, 1003)
	// In the order of l, not in that of slots or times, and what comes twice is told twice.
	l := []api.Heard{{Slot: 9, At: 1481}, {Slot: 0, At: 1030}, {Slot: 4, At: 1235}, {Slot: 4, At: 1229}, {Slot: 9, At: 1481}, {Slot: 5, At: 1280}}
	begins(t, "some", c, 0, 0, l, 1001, 1000, 1005, 999, 1001, 1000)
	begins(t, "some", c, 1, 0, l, 1001, 1000, 1005, 999, 1001, 1000)
	// At 30, 230, 280 and 480, a clock that is a hundredth fast has gained 0, 2, 2 and 4 ticks, and one that is as slow has lost 1, 3, 3 and 5.
	begins(t, "some", c, 0, 10000, l, 1005, 1000, 1007, 1001, 1005, 1002)
	begins(t, "some", c, 0, -10000, l, 996, 999, 1002, 996, 996, 997)
	// A rate that is none counts as 0.
	for _, ppm := range []int{api.Million + 1, -api.Million - 1, math.MaxInt, math.MinInt} {
		begins(t, "some", c, 0, ppm, l, 1001, 1000, 1005, 999, 1001, 1000)
	}
	// The slot's own At counts, which the part's number of ports and the network's Lead and Slot tell.
	begins(t, "slot 10", uneven(), 0, 0, []api.Heard{{Slot: 10, At: 1530}}, 1000)
	begins(t, "slot 23", uneven(), 1, 0, []api.Heard{{Slot: 23, At: 2180}}, 1000)
	begins(t, "slot 0", one(), 0, 0, []api.Heard{{Slot: 0, At: 1003}}, 1000)
	begins(t, "slot 9", long(), 1, 100, []api.Heard{{Slot: 9, At: 390009}}, 39)
}

// A slot that the part does not have is left out, and nothing else is.
func TestBeginsOmitsSlots(t *testing.T) {
	for _, slot := range []int{math.MinInt, -10, -1, 10, 11, 1 << 32, 1<<32 + 4, math.MaxInt} {
		h := api.Heard{Slot: slot, At: 1233}
		begins(t, "a slot beside", two(), 0, 0, []api.Heard{h})
		begins(t, "slots beside", two(), 0, 0, []api.Heard{h, {Slot: 4, At: 1233}, h, h, {Slot: 0, At: 1030}, h}, 1003, 1000)
	}
	// Each part has slots of its own: 11, 24 and 10 of them.
	for part, count := range []int{11, 24, 10} {
		last := []api.Heard{{Slot: count - 1, At: 5000}}
		begins(t, "the last slot", uneven(), part, 0, last, int64(5000-30-50*(count-1)))
		begins(t, "a slot beside", uneven(), part, 0, []api.Heard{{Slot: count, At: 5000}})
	}
}

// What was heard at no time is left out; both edges of what is a time are not.
func TestBeginsOmitsTimes(t *testing.T) {
	for _, at := range []int64{api.MaxTicks + 1, -api.MaxTicks - 1, 2 * api.MaxTicks, math.MaxInt64, math.MinInt64} {
		h := api.Heard{Slot: 4, At: at}
		begins(t, "no time", two(), 0, 0, []api.Heard{h})
		begins(t, "no times", two(), 0, 0, []api.Heard{h, {Slot: 4, At: 1233}, h, h, {Slot: 0, At: 1030}, {Slot: 10, At: at}}, 1003, 1000)
	}
	l := []api.Heard{{Slot: 4, At: api.MaxTicks}, {Slot: 4, At: -api.MaxTicks}}
	begins(t, "the last and the first time", two(), 0, 0, l, api.MaxTicks-230, -api.MaxTicks-230)
}

// Each slot of each part, at times about its own, by clocks of every rate: one by one and all together.
func TestBeginsOfAllSlots(t *testing.T) {
	for _, c := range networks(t) {
		for part := range c.Parts {
			for _, ppm := range rates() {
				var l []api.Heard
				var want []int64
				for slot, s := range table.Slots(c, part) {
					for _, start := range []int64{-1000, 0, 7, api.MaxTicks - 2000} {
						arrival := start + int64(s.At)
						b, ok := begin(s.At, ppm, arrival)
						h := api.Heard{Slot: slot, At: arrival}
						if !ok {
							begins(t, "one", c, part, ppm, []api.Heard{h})
						} else {
							begins(t, "one", c, part, ppm, []api.Heard{h}, b.Int64())
							want = append(want, b.Int64())
						}
						l = append(l, h)
					}
				}
				begins(t, "all", c, part, ppm, l, want...)
			}
		}
	}
}

// Only the slot and the time of what was heard are asked, not its frame: of another kind, node and part, it is told all the same.
func TestBeginsAsksNoFrame(t *testing.T) {
	for _, f := range []api.Frame{
		{},
		{Kind: api.Sync, Part: 0, Node: 0, Cycle: 77, Ages: []int{0, 7}},
		{Kind: api.Data, Part: 1, Node: 3, Body: []byte{1}},
		{Kind: math.MinInt, Part: math.MaxInt, Node: -1, Offset: 5},
	} {
		begins(t, "any frame", two(), 0, 0, []api.Heard{{Slot: 4, Frame: f, At: 1233}}, 1003)
	}
}

// A network that does not fit, and a part that there is not, have no slots.
func TestBeginsWithoutSlots(t *testing.T) {
	l := []api.Heard{{Slot: 0, At: 1030}, {Slot: 4, At: 1233}}
	for _, part := range []int{math.MinInt, -1, 2, 3, 1 << 32, math.MaxInt} {
		begins(t, "no part", two(), part, 0, l)
	}
	begins(t, "no network", api.Config{}, 0, 0, l)
	for i, how := range []func(*api.Config){
		func(c *api.Config) { c.Parts = nil },
		func(c *api.Config) { c.Parts[1].Nodes = 3 },
		func(c *api.Config) { c.Links = nil },
		func(c *api.Config) { c.Cycle = 529 },
		func(c *api.Config) { c.Cycle = math.MaxInt },
		func(c *api.Config) { c.Lead = 19 },
		func(c *api.Config) { c.Slot = 40 },
		func(c *api.Config) { c.Slot = math.MinInt },
		func(c *api.Config) { c.Room = 3 },
	} {
		c := two()
		how(&c)
		if e, _ := bounds.Fits(c); e == api.OK {
			t.Fatalf("network %d fits", i)
		}
		begins(t, "a network that does not fit", c, 0, 0, l)
	}
}

// Rule 4: nothing that is handed in is changed, nor what is behind it, and no answer shares memory with it or with another answer.
func TestBeginsMemory(t *testing.T) {
	c := two()
	all := []api.Heard{{Slot: 5, At: 1281}, {Slot: -1, At: 5}, {Slot: 4, At: 1233}, {Slot: 77, At: 77}}
	parts, links := append(c.Parts, api.Part{Nodes: 77}), append(c.Links, api.Link{A: 77})
	c.Parts, c.Links = parts[:2], links[:1]
	first := gauge.Begins(c, 0, 0, all[:3])
	again := gauge.Begins(c, 0, 0, all[:3])
	for i := range first[:cap(first)] {
		first[:cap(first)][i] = 99
	}
	if !slices.Equal(again, []int64{1001, 1003}) {
		t.Errorf("rule 4: Begins answers %v after an earlier answer was changed", again)
	}
	for i, want := range []api.Heard{{Slot: 5, At: 1281}, {Slot: -1, At: 5}, {Slot: 4, At: 1233}, {Slot: 77, At: 77}} {
		if all[i].Slot != want.Slot || all[i].At != want.At {
			t.Errorf("rule 4: element %d was changed: %+v", i, all[i])
		}
	}
	if !slices.Equal(parts, append(two().Parts, api.Part{Nodes: 77})) || !slices.Equal(links, append(two().Links, api.Link{A: 77})) {
		t.Error("rule 4: the network was changed")
	}
}

func TestSpreadExamples(t *testing.T) {
	for _, x := range []struct {
		l    []int64
		want int64
	}{
		{[]int64{5, 9, 7}, 4},
		{[]int64{9, 7, 5}, 4},
		{[]int64{5, 7, 9}, 4},
		{[]int64{7, 5, 9}, 4},
		{[]int64{7, 9, 5}, 4},
		{[]int64{3}, 0},
		{[]int64{0}, 0},
		{[]int64{3, 3, 3}, 0},
		{[]int64{5, 9, 5, 9}, 4},
		{[]int64{-5, -9, -7}, 4},
		{[]int64{-5, 9}, 14},
		{[]int64{9, -5, 0}, 14},
		{[]int64{1000, 1003, 999, 1001}, 4},
		// The edges of what is a time.
		{[]int64{api.MaxTicks}, 0},
		{[]int64{-api.MaxTicks}, 0},
		{[]int64{api.MaxTicks, api.MaxTicks - 1}, 1},
		{[]int64{1 - api.MaxTicks, -api.MaxTicks}, 1},
		{[]int64{-api.MaxTicks, api.MaxTicks}, 2 * api.MaxTicks},
		{[]int64{api.MaxTicks, 0, -api.MaxTicks}, 2 * api.MaxTicks},
	} {
		if got, ok := gauge.Spread(x.l); got != x.want || !ok {
			t.Errorf("P1202: Spread(%v) = %d, %v; want %d, true", x.l, got, ok, x.want)
		}
	}
}

func TestSpreadRefuses(t *testing.T) {
	for _, l := range [][]int64{nil, {}, make([]int64, 0, 5)} {
		if got, ok := gauge.Spread(l); got != 0 || ok {
			t.Errorf("P1202: Spread of no elements = %d, %v; want 0, false", got, ok)
		}
	}
	// What is no time is refused at each place, also between others that are as far off or farther.
	for _, far := range []int64{api.MaxTicks + 1, -api.MaxTicks - 1, 2 * api.MaxTicks, math.MaxInt64, math.MinInt64} {
		for _, l := range [][]int64{
			{far},
			{far, far},
			{far, 5, 9},
			{5, far, 9},
			{5, 9, far},
			{far, api.MaxTicks},
			{-api.MaxTicks, far},
			{far, math.MaxInt64, 5},
			{math.MinInt64, 5, far},
			{math.MinInt64, far, math.MaxInt64},
		} {
			if got, ok := gauge.Spread(l); got != 0 || ok {
				t.Errorf("P1202: Spread(%v) = %d, %v; want 0, false", l, got, ok)
			}
		}
	}
}

// Three numbers of every size, in every order, against the greatest difference of two of them.
func TestSpreadAnyNumbers(t *testing.T) {
	for _, a := range times() {
		for _, b := range times() {
			for _, c := range times() {
				want := new(big.Int)
				for _, d := range [][2]int64{{a, b}, {b, c}, {c, a}} {
					apart := new(big.Int).Sub(big.NewInt(d[0]), big.NewInt(d[1]))
					if apart.CmpAbs(want) > 0 {
						want.Abs(apart)
					}
				}
				ok := isTime(a) && isTime(b) && isTime(c)
				if got, is := gauge.Spread([]int64{a, b, c}); differs(got, is, want, ok) {
					t.Fatalf("P1202: Spread(%d, %d, %d) = %d, %v; want %v, %v", a, b, c, got, is, want, ok)
				}
			}
		}
	}
}

// Rule 4: the list stays in its order, and what is behind it counts for nothing and stays, too.
func TestSpreadMemory(t *testing.T) {
	l := []int64{9, 5, 7, math.MaxInt64}
	if got, ok := gauge.Spread(l[:3]); got != 4 || !ok {
		t.Errorf("P1202: Spread of a list with more behind it = %d, %v; want 4, true", got, ok)
	}
	if !slices.Equal(l, []int64{9, 5, 7, math.MaxInt64}) {
		t.Errorf("rule 4: the list was changed: %v", l)
	}
}

// The beginnings of nodes that keep their times spread as far as the nodes began apart.
func TestSpreadOfBegins(t *testing.T) {
	c := two()
	var l []api.Heard
	for i, late := range []int64{3, -2, 0, 5} {
		s := table.Slots(c, 0)[4+i]
		l = append(l, api.Heard{Slot: 4 + i, At: 1000 + int64(s.At) + late})
	}
	if got, ok := gauge.Spread(gauge.Begins(c, 0, 0, l)); got != 7 || !ok {
		t.Errorf("P1202: Spread of Begins = %d, %v; want 7, true", got, ok)
	}
}
