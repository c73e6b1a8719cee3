package hops_test

import (
	"math"
	"slices"
	"testing"

	"drumline/api"
	"drumline/hops"
	"drumline/plan"
)

// join returns parts of twelve nodes, joined by links of these ends in this order; each link takes the next two free nodes at its ends.
func join(parts int, ends ...[2]int) api.Config {
	var c api.Config
	for range parts {
		c.Parts = append(c.Parts, api.Part{Nodes: 12, Faults: 3})
	}
	next := map[int]int{}
	take := func(part int) [2]int {
		n := next[part]
		next[part] += 2
		return [2]int{n + 1, n}
	}
	for _, e := range ends {
		c.Links = append(c.Links, api.Link{A: e[0], B: e[1], PortsA: take(e[0]), PortsB: take(e[1])})
	}
	return c
}

// row returns parts in a row, whose links are numbered from the first one to the last one.
func row(parts int) api.Config {
	var ends [][2]int
	for i := 1; i < parts; i++ {
		ends = append(ends, [2]int{i - 1, i})
	}
	return join(parts, ends...)
}

// back returns the same network with its links numbered the other way round.
func back(c api.Config) api.Config {
	c.Links = slices.Clone(c.Links)
	slices.Reverse(c.Links)
	return c
}

// ring returns four parts in a ring.
func ring() api.Config {
	return join(4, [2]int{0, 1}, [2]int{1, 2}, [2]int{2, 3}, [2]int{0, 3})
}

// full returns six parts with as many links as may be.
func full() api.Config {
	return join(6, [2]int{4, 5}, [2]int{0, 3}, [2]int{2, 4}, [2]int{0, 1}, [2]int{1, 3}, [2]int{3, 4}, [2]int{0, 2}, [2]int{1, 4}, [2]int{2, 5}, [2]int{1, 2})
}

// numbers are parts that exist in some network, and some that exist in none.
func numbers() []int {
	return []int{math.MinInt, -2, -1, 0, 1, 2, 3, 4, 5, 6, 7, math.MaxInt}
}

// routes lists all routes from part a to part b that come to no part twice.
func routes(c api.Config, a, b int, seen []int) [][]int {
	if a == b {
		return [][]int{{}}
	}
	seen = append(slices.Clone(seen), a)
	var all [][]int
	for i, l := range c.Links {
		to := l.B
		if a == l.B {
			to = l.A
		}
		if a != l.A && a != l.B || slices.Contains(seen, to) {
			continue
		}
		for _, rest := range routes(c, to, b, seen) {
			all = append(all, append([]int{i}, rest...))
		}
	}
	return all
}

// best returns the route from a to b by another way than the package takes: of all shortest routes the one whose links come first, for a link leads nearer just if a shortest route begins with it.
func best(c api.Config, a, b int) []int {
	return slices.MinFunc(routes(c, a, b, nil), func(x, y []int) int {
		if len(x) != len(y) {
			return len(x) - len(y)
		}
		return slices.Compare(x, y)
	})
}

// agrees holds all answers about c against those that are worked out by another way.
func agrees(t *testing.T, c api.Config) {
	t.Helper()
	e, _ := plan.Check(c)
	width := -1
	for _, a := range numbers() {
		for _, b := range numbers() {
			dist, next := -1, -1
			var way []int
			if e == api.OK && min(a, b) >= 0 && max(a, b) < len(c.Parts) {
				way = best(c, a, b)
				dist = len(way)
				width = max(width, dist)
			}
			if len(way) > 0 {
				next = way[0]
			}
			if got := hops.Dist(c, a, b); got != dist {
				t.Errorf("P601: Dist(%d, %d) of %+v: %d; not %d", a, b, c, got, dist)
			}
			if got := hops.Next(c, a, b); got != next {
				t.Errorf("P601: Next(%d, %d) of %+v: %d; not %d", a, b, c, got, next)
			}
			if got := hops.Way(c, a, b); !slices.Equal(got, way) {
				t.Errorf("P601: Way(%d, %d) of %+v: %v; not %v", a, b, c, got, way)
			}
		}
	}
	if got := hops.Width(c); got != width {
		t.Errorf("P602: Width of %+v: %d; not %d", c, got, width)
	}
}

// nothing checks that there are no routes in c at all.
func nothing(t *testing.T, what string, c api.Config) {
	t.Helper()
	for _, a := range numbers() {
		for _, b := range numbers() {
			if got := hops.Dist(c, a, b); got != -1 {
				t.Errorf("P601: Dist(%d, %d) of %s: %d", a, b, what, got)
			}
			if got := hops.Next(c, a, b); got != -1 {
				t.Errorf("P601: Next(%d, %d) of %s: %d", a, b, what, got)
			}
			if got := hops.Way(c, a, b); len(got) != 0 {
				t.Errorf("P601: Way(%d, %d) of %s: %v", a, b, what, got)
			}
		}
	}
	if got := hops.Width(c); got != -1 {
		t.Errorf("P602: Width of %s: %d", what, got)
	}
}

func TestExamples(t *testing.T) {
	if got := hops.Dist(ring(), 0, 2); got != 2 {
		t.Errorf("P601: Dist(0, 2) in a ring of four parts: %d", got)
	}
	if got := hops.Next(ring(), 0, 0); got != -1 {
		t.Errorf("P601: Next(0, 0): %d", got)
	}
	if got := hops.Way(back(row(4)), 0, 3); !slices.Equal(got, []int{2, 1, 0}) {
		t.Errorf("P601: Way(0, 3) in a row numbered from its last link: %v", got)
	}
	if got := hops.Width(row(1)); got != 0 {
		t.Errorf("P602: Width of a single part: %d", got)
	}
	if got := hops.Way(row(3), 0, 2); !slices.Equal(got, []int{0, 1}) {
		t.Errorf("P601: Way(0, 2) in a row of three parts: %v", got)
	}
	if got := hops.Width(row(3)); got != 2 {
		t.Errorf("P602: Width of a row of three parts: %d", got)
	}
}

func TestRows(t *testing.T) {
	for parts := 1; parts <= 6; parts++ {
		for a := range parts {
			for b := range parts {
				dist := max(a, b) - min(a, b)
				if got := hops.Dist(row(parts), a, b); got != dist {
					t.Errorf("P601: Dist(%d, %d) in a row of %d: %d", a, b, parts, got)
				}
				if got := hops.Way(row(parts), a, b); len(got) != dist {
					t.Errorf("P601: Way(%d, %d) in a row of %d: %v", a, b, parts, got)
				}
			}
		}
		if got := hops.Width(row(parts)); got != parts-1 {
			t.Errorf("P602: Width of a row of %d: %d", parts, got)
		}
		agrees(t, row(parts))
		agrees(t, back(row(parts)))
	}
	if got := hops.Way(row(6), 5, 0); !slices.Equal(got, []int{4, 3, 2, 1, 0}) {
		t.Errorf("P601: Way(5, 0) in a row of 6: %v", got)
	}
}

func TestRings(t *testing.T) {
	for parts, width := range map[int]int{3: 1, 4: 2, 5: 2, 6: 3} {
		c := row(parts)
		ends := [][2]int{{0, parts - 1}}
		for _, l := range c.Links {
			ends = append(ends, [2]int{l.A, l.B})
		}
		c = join(parts, ends...)
		if got := hops.Width(c); got != width {
			t.Errorf("P602: Width of a ring of %d: %d", parts, got)
		}
		agrees(t, c)
		agrees(t, back(c))
	}
}

// The first link that leads nearer is taken, not the first link, and not the nearest or smallest part.
func TestFirstOfSeveral(t *testing.T) {
	for _, x := range []struct {
		what string
		c    api.Config
		way  []int
	}{
		{"the way over part 2 is first", join(4, [2]int{2, 3}, [2]int{0, 2}, [2]int{0, 1}, [2]int{1, 3}), []int{1, 0}},
		{"the way over part 1 is first", join(4, [2]int{2, 3}, [2]int{0, 1}, [2]int{0, 2}, [2]int{1, 3}), []int{1, 3}},
		{"the straight way is last", join(4, [2]int{0, 1}, [2]int{0, 2}, [2]int{1, 3}, [2]int{2, 3}, [2]int{0, 3}), []int{4}},
		{"the first link leads astray", join(4, [2]int{0, 1}, [2]int{0, 2}, [2]int{2, 3}), []int{1, 2}},
		{"the first link leads aside", join(4, [2]int{0, 1}, [2]int{1, 2}, [2]int{0, 2}, [2]int{2, 3}), []int{2, 3}},
	} {
		if got := hops.Way(x.c, 0, 3); !slices.Equal(got, x.way) {
			t.Errorf("P601: Way(0, 3) where %s: %v", x.what, got)
		}
		if got := hops.Next(x.c, 0, 3); got != x.way[0] {
			t.Errorf("P601: Next(0, 3) where %s: %d", x.what, got)
		}
		if got := hops.Dist(x.c, 0, 3); got != len(x.way) {
			t.Errorf("P601: Dist(0, 3) where %s: %d", x.what, got)
		}
		agrees(t, x.c)
		agrees(t, back(x.c))
	}
	// The way back may go over other parts.
	c := join(4, [2]int{0, 1}, [2]int{2, 3}, [2]int{0, 2}, [2]int{1, 3})
	if there, here := hops.Way(c, 0, 3), hops.Way(c, 3, 0); !slices.Equal(there, []int{0, 3}) || !slices.Equal(here, []int{1, 2}) {
		t.Errorf("P601: there by %v, and back by %v", there, here)
	}
}

func TestFull(t *testing.T) {
	for _, c := range []api.Config{full(), back(full())} {
		if e, at := plan.Check(c); e != api.OK || at != 0 {
			t.Errorf("the full network is wrong: %d, %d", e, at)
		}
		agrees(t, c)
	}
}

// Nothing says that the parts between which Width is greatest are the first or the last ones.
func TestWidthOfAnyTwo(t *testing.T) {
	star := join(6, [2]int{0, 3}, [2]int{1, 3}, [2]int{2, 3}, [2]int{3, 4}, [2]int{3, 5})
	turned := join(6, [2]int{0, 1}, [2]int{1, 2}, [2]int{2, 3}, [2]int{0, 4}, [2]int{4, 5})
	for _, x := range []struct {
		c     api.Config
		width int
	}{{star, 2}, {turned, 5}, {full(), 2}, {row(2), 1}} {
		if got := hops.Width(x.c); got != x.width {
			t.Errorf("P602: Width of %+v: %d; not %d", x.c, got, x.width)
		}
		agrees(t, x.c)
	}
}

func TestNoSuchPart(t *testing.T) {
	for _, c := range []api.Config{row(1), row(2), ring(), full()} {
		n := len(c.Parts)
		for _, x := range [][2]int{{0, n}, {n, 0}, {n, n}, {0, -1}, {-1, 0}, {-1, -1}, {-1, n}, {math.MinInt, 0}, {0, math.MaxInt}} {
			if got := hops.Dist(c, x[0], x[1]); got != -1 {
				t.Errorf("P601: Dist(%d, %d) of %d parts: %d", x[0], x[1], n, got)
			}
			if got := hops.Next(c, x[0], x[1]); got != -1 {
				t.Errorf("P601: Next(%d, %d) of %d parts: %d", x[0], x[1], n, got)
			}
			if got := hops.Way(c, x[0], x[1]); len(got) != 0 {
				t.Errorf("P601: Way(%d, %d) of %d parts: %v", x[0], x[1], n, got)
			}
		}
	}
}

func TestWrongNetworks(t *testing.T) {
	nothing(t, "nothing", api.Config{})
	nothing(t, "links without parts", api.Config{Links: ring().Links})
	nothing(t, "seven parts", row(7))
	nothing(t, "a part without nodes", api.Config{Parts: make([]api.Part, 1)})
	nothing(t, "two parts without a link", join(2))
	nothing(t, "a link twice", join(2, [2]int{0, 1}, [2]int{0, 1}))
	nothing(t, "a link of one part", join(2, [2]int{0, 1}, [2]int{1, 1}))
	nothing(t, "a link from a greater part", join(2, [2]int{1, 0}))
	nothing(t, "a link to no part", join(2, [2]int{0, 1}, [2]int{1, 2}))
	nothing(t, "a link from no part", join(2, [2]int{0, 1}, [2]int{-1, 1}))
	nothing(t, "links far off", join(2, [2]int{math.MinInt, math.MaxInt}))
	// Even between parts that are joined, and from a part to itself.
	nothing(t, "a part apart", join(4, [2]int{0, 1}, [2]int{1, 2}))
	faulty := ring()
	faulty.Parts[3].Faults = 4
	nothing(t, "too many faults", faulty)
	same := ring()
	same.Links[3].PortsB[0] = same.Links[2].PortsB[0]
	nothing(t, "a port taken twice", same)
	long := full()
	long.Links = append(long.Links, join(6, [2]int{0, 5}).Links...)
	nothing(t, "eleven links", long)
}

func TestOtherNumbersDoNotCount(t *testing.T) {
	c := full()
	for _, n := range []int{math.MinInt, -1, 0, 1, math.MaxInt} {
		c.Cycle, c.Lead, c.Slot, c.Window, c.Drift, c.Rate = n, n, n, n, n, n
		c.Ages, c.Lost, c.Listen, c.Span, c.Room = n, n, n, n, n
		agrees(t, c)
	}
}

// dice returns numbers without a pattern, always the same ones for the same seed.
func dice(seed uint64) func(n int) int {
	return func(n int) int {
		seed = seed*6364136223846793005 + 1442695040888963407
		return int(seed>>33) % n
	}
}

// thrown returns a network without a pattern that is mostly right: a tree, further links, and their numbers mixed.
func thrown(seed uint64) api.Config {
	roll := dice(seed)
	parts := 1 + roll(6)
	has := map[[2]int]bool{}
	var ends [][2]int
	add := func(a, b int) {
		e := [2]int{min(a, b), max(a, b)}
		if a == b || has[e] {
			return
		}
		has[e] = true
		ends = slices.Insert(ends, roll(len(ends)+1), e)
	}
	for i := 1; i < parts; i++ {
		if roll(60) > 0 {
			add(i, roll(i))
		}
	}
	for range roll(8) {
		add(roll(parts), roll(parts))
	}
	return join(parts, ends...)
}

func TestThrown(t *testing.T) {
	seen, widths := map[bool]int{}, map[int]int{}
	for seed := range uint64(4000) {
		c := thrown(seed)
		e, _ := plan.Check(c)
		seen[e == api.OK]++
		widths[hops.Width(c)]++
		agrees(t, c)
	}
	if seen[true] < 2000 || seen[false] < 50 {
		t.Errorf("only so many of the networks are right, and wrong: %v", seen)
	}
	for width := -1; width < 5; width++ {
		if widths[width] < 10 {
			t.Errorf("only %d of the networks have the width %d", widths[width], width)
		}
	}
}

func TestArgumentsStay(t *testing.T) {
	for _, c := range []api.Config{ring(), row(6), full(), thrown(1), thrown(2)} {
		parts := append(slices.Clone(c.Parts), api.Part{Nodes: 77, Faults: 78})
		links := append(slices.Clone(c.Links), api.Link{A: 77, B: 78})
		c.Parts, c.Links = parts[:len(parts)-1], links[:len(links)-1]
		wantParts, wantLinks := slices.Clone(parts), slices.Clone(links)
		for a := range c.Parts {
			for b := range c.Parts {
				first := hops.Way(c, a, b)
				want := slices.Clone(first)
				clear(first[:cap(first)])
				if second := hops.Way(c, a, b); !slices.Equal(second, want) {
					t.Errorf("rule 5: a later answer hangs on an earlier one: %v; not %v", second, want)
				}
			}
		}
		agrees(t, c)
		if !slices.Equal(parts, wantParts) || !slices.Equal(links, wantLinks) {
			t.Errorf("rule 4: an argument was changed: %+v", c)
		}
	}
}
