package ages_test

import (
	"math"
	"math/rand/v2"
	"slices"
	"testing"

	"drumline/ages"
	"drumline/api"
)

// wild lists numbers within, at and beside all limits.
func wild() []int {
	return []int{math.MinInt, math.MinInt + 1, -1 << 62, -1 << 32, -201, -2, -1, 0, 1, 2, 5, 6, 7, 8, 9, 10, 63, 64, 199, 200, 201, 202, 500, 1 << 31, 1 << 32, 1<<32 + 1, 1 << 62, math.MaxInt - 1, math.MaxInt}
}

// within returns v, put to the nearer end of the range if it is beside it.
func within(v, low, high int) int {
	switch {
	case v < low:
		return low
	case v > high:
		return high
	}
	return v
}

// ageOf returns the age that counts of a part in a list, by the chapter's words.
func ageOf(l []int, part, gone int) int {
	g := within(gone, 0, 201)
	for i, v := range l {
		if i == part {
			return within(v, 0, g)
		}
	}
	return g
}

// nextOf works out Next by sorting all ages of each part.
func nextOf(own []int, self int, heard [][]int, gone int) []int {
	g := within(gone, 0, 201)
	want := []int{}
	for part := range own {
		if part == 6 {
			break
		}
		all := []int{ageOf(own, part, gone)}
		for _, l := range heard {
			all = append(all, ageOf(l, part, gone))
		}
		slices.Sort(all)
		switch {
		case part == self:
			want = append(want, 0)
		case all[0] == g:
			want = append(want, g)
		default:
			want = append(want, all[0]+1)
		}
	}
	return want
}

// fresh checks what Fresh answers.
func fresh(t *testing.T, parts, self, gone int, want ...int) {
	t.Helper()
	if got := ages.Fresh(parts, self, gone); !slices.Equal(got, want) {
		t.Errorf("P1501: Fresh(%d, %d, %d) = %v; want %v", parts, self, gone, got, want)
	}
}

// next checks what Next answers.
func next(t *testing.T, own []int, self int, heard [][]int, gone int, want ...int) {
	t.Helper()
	if got := ages.Next(own, self, heard, gone); !slices.Equal(got, want) {
		t.Errorf("P1502: Next(%v, %d, %v, %d) = %v; want %v", own, self, heard, gone, got, want)
	}
}

// alive checks what Alive and Root answer.
func alive(t *testing.T, l []int, gone, mask, root int) {
	t.Helper()
	if got := ages.Alive(l, gone); got != mask {
		t.Errorf("P1503: Alive(%v, %d) = %b; want %b", l, gone, got, mask)
	}
	if got := ages.Root(l, gone); got != root {
		t.Errorf("P1503: Root(%v, %d) = %d; want %d", l, gone, got, root)
	}
}

func TestFreshExamples(t *testing.T) {
	fresh(t, 3, 1, 9, 9, 0, 9)
	fresh(t, 3, 0, 9, 0, 9, 9)
	fresh(t, 3, 2, 9, 9, 9, 0)
	fresh(t, 1, 0, 9, 0)
	fresh(t, 6, 5, 201, 201, 201, 201, 201, 201, 0)
	// No such part.
	fresh(t, 3, 3, 9, 9, 9, 9)
	fresh(t, 3, -1, 9, 9, 9, 9)
	fresh(t, 3, math.MinInt, 9, 9, 9, 9)
	fresh(t, 3, math.MaxInt, 9, 9, 9, 9)
	fresh(t, 3, 1<<32+1, 9, 9, 9, 9)
	fresh(t, 7, 6, 9, 9, 9, 9, 9, 9, 9)
	// The number of parts is limited.
	fresh(t, 0, 0, 9)
	fresh(t, -1, 0, 9)
	fresh(t, math.MinInt, 0, 9)
	fresh(t, 5, 0, 9, 0, 9, 9, 9, 9)
	fresh(t, 6, 0, 9, 0, 9, 9, 9, 9, 9)
	fresh(t, 7, 0, 9, 0, 9, 9, 9, 9, 9)
	fresh(t, math.MaxInt, 0, 9, 0, 9, 9, 9, 9, 9)
	fresh(t, 1<<32, 0, 9, 0, 9, 9, 9, 9, 9)
	// So is gone.
	fresh(t, 2, 0, 1, 0, 1)
	fresh(t, 2, 0, 0, 0, 0)
	fresh(t, 2, 0, -1, 0, 0)
	fresh(t, 2, 0, math.MinInt, 0, 0)
	fresh(t, 2, 0, 200, 0, 200)
	fresh(t, 2, 0, 201, 0, 201)
	fresh(t, 2, 0, 202, 0, 201)
	fresh(t, 2, 0, math.MaxInt, 0, 201)
	fresh(t, 2, 0, 1<<32, 0, 201)
}

func TestFreshWildNumbers(t *testing.T) {
	for _, parts := range wild() {
		for _, self := range wild() {
			for _, gone := range wild() {
				want := make([]int, within(parts, 0, 6))
				for i := range want {
					want[i] = within(gone, 0, 201)
					if i == self {
						want[i] = 0
					}
				}
				fresh(t, parts, self, gone, want...)
			}
		}
	}
}

func TestNextExamples(t *testing.T) {
	next(t, []int{0, 3, 9}, 0, [][]int{{4, 0, 9}}, 9, 0, 1, 9)
	// Nothing heard: all others are a cycle older.
	next(t, []int{0, 3, 5}, 0, nil, 9, 0, 4, 6)
	next(t, []int{0, 3, 5}, 0, [][]int{}, 9, 0, 4, 6)
	next(t, []int{0, 3, 5}, 0, [][]int{nil, {}}, 9, 0, 4, 6)
	// The smallest counts, wherever it stands.
	next(t, []int{0, 2, 5}, 0, [][]int{{0, 4, 4}, {0, 3, 7}}, 9, 0, 3, 5)
	next(t, []int{0, 4, 5}, 0, [][]int{{0, 2, 6}, {0, 3, 7}}, 9, 0, 3, 6)
	next(t, []int{0, 4, 5}, 0, [][]int{{0, 3, 6}, {0, 2, 1}}, 9, 0, 3, 2)
	next(t, []int{0, 4, 5}, 0, [][]int{{0, 4, 5}, {0, 4, 5}}, 9, 0, 5, 6)
	// The age of self is 0, whatever it was and whatever is heard.
	next(t, []int{8, 8, 8}, 1, [][]int{{3, 4, 5}}, 9, 4, 0, 6)
	next(t, []int{8, 8, 8}, 2, [][]int{{3, 4, 5}}, 9, 4, 5, 0)
	next(t, []int{9, 9}, 1, nil, 9, 9, 0)
	// No such part as self.
	next(t, []int{0, 3}, 2, nil, 9, 1, 4)
	next(t, []int{0, 3}, -1, nil, 9, 1, 4)
	next(t, []int{0, 3}, math.MinInt, nil, 9, 1, 4)
	next(t, []int{0, 3}, math.MaxInt, nil, 9, 1, 4)
	next(t, []int{0, 3}, 1<<32, nil, 9, 1, 4)
}

func TestNextEdges(t *testing.T) {
	// At most gone.
	next(t, []int{0, 7, 8, 9, 10}, 0, nil, 9, 0, 8, 9, 9, 9)
	next(t, []int{0, 9}, 0, [][]int{{0, 8}}, 9, 0, 9)
	next(t, []int{0, 9}, 0, [][]int{{0, 7}}, 9, 0, 8)
	next(t, []int{0, 9}, 0, [][]int{{0, 12}}, 9, 0, 9)
	next(t, []int{5, 5, 5}, 0, nil, 1, 0, 1, 1)
	next(t, []int{0, 0, 1}, 0, nil, 1, 0, 1, 1)
	next(t, []int{0, 0, 5}, 0, [][]int{{0, 0, 0}}, 0, 0, 0, 0)
	next(t, []int{0, 0, 5}, 0, nil, -1, 0, 0, 0)
	next(t, []int{0, 0, 5}, -1, nil, math.MinInt, 0, 0, 0)
	// Gone itself is limited.
	next(t, []int{0, 198, 199, 200, 201, 202}, 0, nil, 201, 0, 199, 200, 201, 201, 201)
	next(t, []int{0, 198, 199, 200, 201, 202}, 0, nil, 202, 0, 199, 200, 201, 201, 201)
	next(t, []int{0, 198, 199, 200, 201, 202}, 0, nil, 200, 0, 199, 200, 200, 200, 200)
	next(t, []int{0, 198, 199, 200, 201, 202}, 0, nil, math.MaxInt, 0, 199, 200, 201, 201, 201)
	next(t, []int{0, math.MaxInt}, 0, nil, math.MaxInt, 0, 201)
	// Ages beside the range.
	next(t, []int{0, -1, -7, math.MinInt, math.MaxInt}, 0, nil, 9, 0, 1, 1, 1, 9)
	next(t, []int{0, 5, 5, 5}, 0, [][]int{{0, -1, math.MinInt, math.MaxInt}}, 9, 0, 1, 1, 6)
	// What a list does not contain counts as gone.
	next(t, []int{0, 5, 5}, 0, [][]int{{0, 2}}, 9, 0, 3, 6)
	next(t, []int{0, 5, 5}, 0, [][]int{{0}, {0, 1}, nil, {0, 9, 3}}, 9, 0, 2, 4)
	// As many ages as own has, however many are heard.
	next(t, nil, 0, [][]int{{0, 1, 2}}, 9)
	next(t, []int{}, 0, [][]int{{0, 1, 2}}, 9)
	next(t, []int{4}, 1, [][]int{{0, 1, 2}}, 9, 1)
	next(t, []int{4, 4}, 0, [][]int{{0, 1, 2, 3, 4, 5, 6, 7}}, 9, 0, 2)
	// But at most MaxParts.
	next(t, []int{1, 1, 1, 1, 1}, 0, nil, 9, 0, 2, 2, 2, 2)
	next(t, []int{1, 1, 1, 1, 1, 1}, 5, nil, 9, 2, 2, 2, 2, 2, 0)
	next(t, []int{1, 1, 1, 1, 1, 1, 1}, 6, [][]int{{0, 0, 0, 0, 0, 0, 0}}, 9, 1, 1, 1, 1, 1, 1)
	next(t, make([]int, 1000), 0, nil, 9, 0, 1, 1, 1, 1, 1)
}

// Every small own list and heard ones, for every self and gone.
func TestNextSmallLists(t *testing.T) {
	var lists [][]int
	for a := -1; a <= 3; a++ {
		lists = append(lists, []int{a})
		for b := -1; b <= 3; b++ {
			lists = append(lists, []int{a, b})
		}
	}
	lists = append(lists, nil)
	for _, own := range lists {
		for _, one := range lists {
			for _, other := range lists {
				for self := -1; self <= 2; self++ {
					for gone := -1; gone <= 3; gone++ {
						heard := [][]int{one, other}
						next(t, own, self, heard, gone, nextOf(own, self, heard, gone)...)
					}
				}
			}
		}
	}
}

func TestNextThrownLists(t *testing.T) {
	r := rand.New(rand.NewPCG(15, 2))
	list := func() []int {
		l := make([]int, r.IntN(9))
		for i := range l {
			l[i] = r.IntN(14) - 2
			if r.IntN(4) == 0 {
				l[i] = wild()[r.IntN(len(wild()))]
			}
		}
		return l
	}
	for range 20000 {
		own, self, gone := list(), r.IntN(9)-1, r.IntN(14)-2
		if r.IntN(4) == 0 {
			gone = wild()[r.IntN(len(wild()))]
		}
		heard := make([][]int, r.IntN(5))
		for i := range heard {
			heard[i] = list()
		}
		next(t, own, self, heard, gone, nextOf(own, self, heard, gone)...)
	}
}

// An age that is heard of a part that nobody hears of any more runs up by one a cycle, until the part is gone.
func TestNextCycleByCycle(t *testing.T) {
	l := ages.Next(ages.Fresh(2, 0, 5), 0, [][]int{{5, 0}}, 5)
	for _, want := range []int{1, 2, 3, 4, 5, 5, 5} {
		if !slices.Equal(l, []int{0, want}) {
			t.Errorf("P1502: ages %v; want 0 %d", l, want)
		}
		l = ages.Next(l, 0, nil, 5)
	}
}

func TestAliveExamples(t *testing.T) {
	alive(t, []int{9, 1, 0}, 9, 6, 1)
	alive(t, []int{0, 1, 9}, 9, 3, 0)
	alive(t, []int{0, 9, 8}, 9, 5, 0)
	alive(t, []int{9, 9, 8}, 9, 4, 2)
	alive(t, []int{9, 9, 9}, 9, 0, -1)
	alive(t, []int{0}, 9, 1, 0)
	alive(t, nil, 9, 0, -1)
	alive(t, []int{}, 9, 0, -1)
	// At gone, and beside it.
	alive(t, []int{8, 9, 10}, 9, 1, 0)
	alive(t, []int{10, 9, 8}, 9, 4, 2)
	alive(t, []int{0, 1, 2}, 1, 1, 0)
	alive(t, []int{1, 0, 2}, 1, 2, 1)
	// Gone is limited: below 1, all are gone.
	alive(t, []int{0, 0}, 0, 0, -1)
	alive(t, []int{-1, math.MinInt}, 0, 0, -1)
	alive(t, []int{-1, math.MinInt}, -1, 0, -1)
	alive(t, []int{-9, -5}, -3, 0, -1)
	alive(t, []int{0, math.MinInt}, math.MinInt, 0, -1)
	alive(t, []int{202, 201, 200}, 201, 4, 2)
	alive(t, []int{202, 201, 200}, 202, 4, 2)
	alive(t, []int{202, 201, 200}, math.MaxInt, 4, 2)
	alive(t, []int{math.MaxInt, 1 << 32}, math.MaxInt, 0, -1)
	alive(t, []int{200, 199}, 200, 2, 1)
	// Ages below 0 count as 0.
	alive(t, []int{9, -1}, 9, 2, 1)
	alive(t, []int{math.MinInt, 1}, 1, 1, 0)
	// Parts from MaxParts on are none.
	alive(t, []int{0, 0, 0, 0, 0, 0}, 9, 63, 0)
	alive(t, []int{0, 0, 0, 0, 0, 0, 0, 0}, 9, 63, 0)
	alive(t, []int{9, 9, 9, 9, 9, 0}, 9, 32, 5)
	alive(t, []int{9, 9, 9, 9, 9, 9, 0}, 9, 0, -1)
	alive(t, append(slices.Repeat([]int{9}, 64), 0), 9, 0, -1)
	alive(t, append(slices.Repeat([]int{9}, 5), make([]int, 100)...), 9, 32, 5)
}

// Every set of parts, in lists of every length.
func TestAliveEachSet(t *testing.T) {
	for n := range 9 {
		for set := range 1 << n {
			l := slices.Repeat([]int{7}, n)
			mask, root := 0, -1
			for part := n - 1; part >= 0; part-- {
				if set>>part&1 == 0 {
					continue
				}
				l[part] = part
				if part < 6 {
					mask, root = mask|1<<part, part
				}
			}
			alive(t, l, 7, mask&63, root)
		}
	}
}

func TestAliveWildNumbers(t *testing.T) {
	for _, a := range wild() {
		for _, b := range wild() {
			for _, gone := range wild() {
				mask, root := 0, -1
				if ageOf([]int{a, b}, 1, gone) < within(gone, 0, 201) {
					mask, root = 2, 1
				}
				if ageOf([]int{a, b}, 0, gone) < within(gone, 0, 201) {
					mask, root = mask+1, 0
				}
				alive(t, []int{a, b}, gone, mask, root)
			}
		}
	}
}

// Rule 4: the lists stay as they are, what stands behind them counts for nothing, and what is answered is new.
func TestMemory(t *testing.T) {
	own, one := []int{9, 3, -5, 77, 78, 79, 80}, []int{4, 0, 99, 0, 0, 0, 0}
	heard := [][]int{one[:3], {1}, {0, 0, 0}}
	next(t, own[:3], 0, heard[:1], 9, 0, 1, 1)
	alive(t, own[:3], 9, 6, 1)
	alive(t, one[:1], 1, 0, -1)
	got := ages.Next(own[:3], 0, heard[:2], 9)
	for i := range got {
		got[i] = 55
	}
	if got = append(got, 56, 57); len(got) != 5 {
		t.Errorf("rule 4: %v", got)
	}
	if !slices.Equal(own, []int{9, 3, -5, 77, 78, 79, 80}) || !slices.Equal(one, []int{4, 0, 99, 0, 0, 0, 0}) {
		t.Errorf("rule 4: the lists were changed: %v, %v", own, one)
	}
	if len(heard) != 3 || !slices.Equal(heard[1], []int{1}) || !slices.Equal(heard[2], []int{0, 0, 0}) {
		t.Errorf("rule 4: the lists that are heard were changed: %v", heard)
	}
	a, b := ages.Fresh(3, 1, 9), ages.Fresh(3, 1, 9)
	a[0], a[1], a[2] = 1, 2, 3
	if !slices.Equal(b, []int{9, 0, 9}) {
		t.Errorf("rule 4: two answers share memory: %v", b)
	}
	fresh(t, 3, 1, 9, 9, 0, 9)
}

// The tests above write the limits of package api out as numbers.
func TestLimits(t *testing.T) {
	if api.MaxParts != 6 || api.MaxAges != 200 {
		t.Fatalf("the tests of this package hold for 6 parts and 200 ages; now %d and %d", api.MaxParts, api.MaxAges)
	}
}
