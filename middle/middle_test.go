package middle_test

import (
	"math"
	"math/big"
	"math/rand/v2"
	"slices"
	"testing"

	"drumline/api"
	"drumline/middle"
)

// edges lists numbers of every size: times, those about the edges of what is a time, and wild ones.
func edges() []int64 {
	return []int64{
		math.MinInt64, math.MinInt64 + 1, -1 << 62, -2 * api.MaxTicks, -api.MaxTicks - 1, -api.MaxTicks, -api.MaxTicks + 1, -1000, -2, -1,
		0, 1, 3, 1000, api.MaxTicks - 1, api.MaxTicks, api.MaxTicks + 1, 2 * api.MaxTicks, 1 << 62, math.MaxInt64 - 1, math.MaxInt64,
	}
}

// wrongFaults lists numbers of faults that no list bears: negative ones, and those whose double, or the number behind it, wraps round.
func wrongFaults() []int {
	return []int{
		math.MinInt, math.MinInt + 1, -1 << 62, -1<<62 - 1, -1 << 32, -1000, -2, -1,
		1000, 1<<31 - 1, 1 << 31, 1 << 32, 1<<32 + 1, 1<<62 - 1, 1 << 62, 1<<62 + 1, math.MaxInt - 1, math.MaxInt,
	}
}

// isTime reports whether v is a time.
func isTime(v int64) bool { return v >= -api.MaxTicks && v <= api.MaxTicks }

// cut works Cut out without sorting: it takes the smallest element out again and again, and leaves the first and the last ones of these away.
func cut(l []int64, faults int) ([]int64, bool) {
	left := slices.Clone(l)
	var rest []int64
	for i := range l {
		at := 0
		for j, v := range left {
			if v < left[at] {
				at = j
			}
		}
		if i >= faults && i < len(l)-faults {
			rest = append(rest, left[at])
		}
		left = slices.Delete(left, at, at+1)
	}
	return rest, len(rest) > 0
}

// mid works Mid out with numbers of any size.
func mid(l []int64, faults int) (int64, bool) {
	rest, ok := cut(l, faults)
	if !ok || slices.ContainsFunc(l, func(v int64) bool { return !isTime(v) }) {
		return 0, false
	}
	both := new(big.Int).Add(big.NewInt(rest[0]), big.NewInt(rest[len(rest)-1]))
	// Div leaves a remainder that is never negative, so it rounds down.
	return both.Div(both, big.NewInt(2)).Int64(), true
}

// checkCut holds Cut against what it is to answer, and what it was given against what it was.
func checkCut(t *testing.T, l []int64, faults int, want []int64, ok bool) {
	t.Helper()
	in := slices.Clone(l)
	got, is := middle.Cut(in, faults)
	if !slices.Equal(got, want) || is != ok {
		t.Fatalf("P1301: Cut(%v, %d) = %v, %v; want %v, %v", l, faults, got, is, want, ok)
	}
	if !slices.Equal(in, l) {
		t.Fatalf("rule 4: Cut(%v, %d) changed its list to %v", l, faults, in)
	}
}

// checkMid does the same for Mid.
func checkMid(t *testing.T, l []int64, faults int, want int64, ok bool) {
	t.Helper()
	in := slices.Clone(l)
	if got, is := middle.Mid(in, faults); got != want || is != ok {
		t.Fatalf("P1302: Mid(%v, %d) = %d, %v; want %d, %v", l, faults, got, is, want, ok)
	}
	if !slices.Equal(in, l) {
		t.Fatalf("rule 4: Mid(%v, %d) changed its list to %v", l, faults, in)
	}
}

// checkBoth holds Cut and Mid against the other ways of working them out.
func checkBoth(t *testing.T, l []int64, faults int) {
	t.Helper()
	rest, ok := cut(l, faults)
	checkCut(t, l, faults, rest, ok)
	m, ok := mid(l, faults)
	checkMid(t, l, faults, m, ok)
}

// eachList calls visit with each list of the length n of the numbers least to most; the list is the same one, changed, at each call.
func eachList(n int, least, most int64, visit func(l []int64)) {
	l := make([]int64, n)
	var fill func(i int)
	fill = func(i int) {
		if i == n {
			visit(l)
			return
		}
		for v := least; v <= most; v++ {
			l[i] = v
			fill(i + 1)
		}
	}
	fill(0)
}

func TestCutExamples(t *testing.T) {
	for _, x := range []struct {
		l      []int64
		faults int
		want   []int64
	}{
		{[]int64{3, 1, 2}, 1, []int64{2}},
		{[]int64{3, 1, 2}, 0, []int64{1, 2, 3}},
		{[]int64{3, 1}, 0, []int64{1, 3}},
		{[]int64{5}, 0, []int64{5}},
		{[]int64{4, 1, 3, 2}, 1, []int64{2, 3}},
		{[]int64{5, 4, 3, 2, 1}, 2, []int64{3}},
		{[]int64{5, 4, 3, 2, 1}, 1, []int64{2, 3, 4}},
		{[]int64{7, 6, 5, 4, 3, 2, 1}, 3, []int64{4}},
		// Equal elements are elements of their own: no more of them go than faults.
		{[]int64{2, 2, 1, 2}, 1, []int64{2, 2}},
		{[]int64{1, 1, 1, 9, 9, 9}, 1, []int64{1, 1, 9, 9}},
		{[]int64{1, 1, 1, 9, 9, 9}, 2, []int64{1, 9}},
		{[]int64{0, 0, 0}, 1, []int64{0}},
		{[]int64{-1, -3, -2}, 1, []int64{-2}},
		{[]int64{-1, 10, -10, 1}, 1, []int64{-1, 1}},
		// Cut asks for no times.
		{[]int64{math.MaxInt64, math.MinInt64, 0}, 0, []int64{math.MinInt64, 0, math.MaxInt64}},
		{[]int64{math.MaxInt64, math.MinInt64, 0}, 1, []int64{0}},
		{[]int64{api.MaxTicks + 1}, 0, []int64{api.MaxTicks + 1}},
	} {
		checkCut(t, x.l, x.faults, x.want, true)
	}
}

// Of each length, the greatest number of faults that it bears leaves one element or two, and one more is refused.
func TestCutLengths(t *testing.T) {
	var l []int64
	for n := range 40 {
		for faults := range 25 {
			var want []int64
			for v := faults; v < n-faults; v++ {
				want = append(want, int64(v))
			}
			checkCut(t, l, faults, want, n >= 2*faults+1)
			if n >= 2*faults+1 {
				checkMid(t, l, faults, int64((n-1)/2), true)
			} else {
				checkMid(t, l, faults, 0, false)
			}
		}
		// The next element goes to the front, so that the list is never in order.
		l = append([]int64{int64(n)}, l...)
	}
}

func TestWrongFaults(t *testing.T) {
	for _, faults := range wrongFaults() {
		for _, l := range [][]int64{nil, {}, {5}, {3, 1}, {3, 1, 2}, make([]int64, 999)} {
			checkCut(t, l, faults, nil, false)
			checkMid(t, l, faults, 0, false)
		}
	}
	for _, faults := range []int{0, 1} {
		for _, l := range [][]int64{nil, {}, make([]int64, 0, 9)} {
			checkCut(t, l, faults, nil, false)
			checkMid(t, l, faults, 0, false)
		}
	}
}

func TestMidExamples(t *testing.T) {
	for _, x := range []struct {
		l      []int64
		faults int
		want   int64
	}{
		{[]int64{1, 9, 5, 100}, 1, 7},
		{[]int64{100, 5, 9, 1}, 1, 7},
		{[]int64{7}, 0, 7},
		{[]int64{-7}, 0, -7},
		{[]int64{3, 1, 2}, 1, 2},
		// It is the middle of the two ends that are left, not the middle element, nor the mean.
		{[]int64{0, 1, 1, 1, 10}, 0, 5},
		{[]int64{-99, 0, 9, 9, 10, 99}, 1, 5},
		{[]int64{0, 10, 1000, -1000, 4, 6, 8}, 2, 6},
		// It is rounded down, toward less, not toward 0.
		{[]int64{1, 2}, 0, 1},
		{[]int64{-1, -2}, 0, -2},
		{[]int64{-1, 0}, 0, -1},
		{[]int64{0, 1}, 0, 0},
		{[]int64{-3, 4}, 0, 0},
		{[]int64{-4, 3}, 0, -1},
		// The edges of what is a time.
		{[]int64{api.MaxTicks}, 0, api.MaxTicks},
		{[]int64{-api.MaxTicks}, 0, -api.MaxTicks},
		{[]int64{api.MaxTicks, api.MaxTicks}, 0, api.MaxTicks},
		{[]int64{api.MaxTicks, api.MaxTicks - 1}, 0, api.MaxTicks - 1},
		{[]int64{-api.MaxTicks, -api.MaxTicks + 1}, 0, -api.MaxTicks},
		{[]int64{api.MaxTicks, -api.MaxTicks}, 0, 0},
		{[]int64{api.MaxTicks, api.MaxTicks, -api.MaxTicks}, 0, 0},
		{[]int64{api.MaxTicks, api.MaxTicks, -api.MaxTicks}, 1, api.MaxTicks},
		{[]int64{api.MaxTicks, 1 - api.MaxTicks}, 0, 0},
		{[]int64{api.MaxTicks - 1, -api.MaxTicks}, 0, -1},
	} {
		checkMid(t, x.l, x.faults, x.want, true)
	}
}

// What is no time is refused at each place of the list, be it cut or not; Cut takes it all the same.
func TestMidRefusesTimes(t *testing.T) {
	for _, far := range edges() {
		if isTime(far) {
			continue
		}
		checkMid(t, []int64{far}, 0, 0, false)
		for faults := range 4 {
			for at := range 7 {
				l := []int64{3, 0, 6, 1, 5, 2, 4}
				l[at] = far
				checkMid(t, l, faults, 0, false)
				if _, ok := middle.Cut(l, faults); !ok {
					t.Fatalf("P1301: Cut(%v, %d) refuses", l, faults)
				}
			}
		}
		checkMid(t, []int64{far, 1, math.MinInt64, math.MaxInt64, 2}, 2, 0, false)
	}
}

// Every list of a few small numbers, by another way of cutting.
func TestSmallLists(t *testing.T) {
	for n := range 7 {
		eachList(n, -2, 2, func(l []int64) {
			for faults := range 5 {
				checkBoth(t, l, faults)
			}
		})
	}
}

// Three numbers of every size, in every order, likewise.
func TestAnyNumbers(t *testing.T) {
	for _, a := range edges() {
		for _, b := range edges() {
			for _, c := range edges() {
				l := []int64{a, b, c}
				for faults := range 3 {
					checkBoth(t, l, faults)
				}
			}
		}
	}
}

// Long lists, and more faults than a part has: neither has a limit of its own.
func TestLongLists(t *testing.T) {
	r := rand.New(rand.NewPCG(13, 1301))
	for range 200 {
		l := make([]int64, r.IntN(120))
		for i := range l {
			l[i] = r.Int64N(50) - 25
		}
		for _, faults := range []int{0, 1, api.MaxFaults, api.MaxFaults + 1, api.MaxNodes, 30, 59, 60} {
			checkBoth(t, l, faults)
		}
	}
}

// Rule 4: nothing behind the list counts or is changed, and no answer shares memory with the list or with another answer.
func TestMemory(t *testing.T) {
	for faults := range 3 {
		all := []int64{5, 1, 4, 2, 3, -77, 77}
		l := all[:5]
		want, _ := cut(l, faults)
		first, _ := middle.Cut(l, faults)
		again, _ := middle.Cut(l, faults)
		for i := range first[:cap(first)] {
			first[:cap(first)][i] = 99
		}
		if !slices.Equal(again, want) {
			t.Errorf("rule 4: Cut answers %v after an earlier answer was changed; want %v", again, want)
		}
		for i := range l {
			l[i] = 88
		}
		if !slices.Equal(again, want) {
			t.Errorf("rule 4: an answer of Cut became %v with its list; want %v", again, want)
		}
		if !slices.Equal(all, []int64{88, 88, 88, 88, 88, -77, 77}) {
			t.Errorf("rule 4: Cut changed its list or what is behind it: %v", all)
		}
	}
	all := []int64{5, 1, 4, 2, 3, -77, 77}
	if got, ok := middle.Mid(all[:5], 1); got != 3 || !ok {
		t.Errorf("P1302: Mid of a list with more behind it = %d, %v; want 3, true", got, ok)
	}
	if !slices.Equal(all, []int64{5, 1, 4, 2, 3, -77, 77}) {
		t.Errorf("rule 4: Mid changed its list or what is behind it: %v", all)
	}
}

// midOf returns Mid of a list that it has to take.
func midOf(t *testing.T, l []int64, faults int) int64 {
	t.Helper()
	m, ok := middle.Mid(l, faults)
	if !ok {
		t.Fatalf("P1302: Mid(%v, %d) refuses", l, faults)
	}
	return m
}

// checkBetween checks that the middle of l lies between the others if the elements at the places in wrong are wrong.
func checkBetween(t *testing.T, l []int64, faults int, wrong []int) {
	t.Helper()
	least, most := int64(math.MaxInt64), int64(math.MinInt64)
	for i, v := range l {
		if !slices.Contains(wrong, i) {
			least, most = min(least, v), max(most, v)
		}
	}
	if m := midOf(t, l, faults); m < least || m > most {
		t.Fatalf("P1303: Mid(%v, %d) = %d; the others than %v are %d to %d", l, faults, m, wrong, least, most)
	}
}

// Wrong elements at every place, of every size, among others that are close together or far apart.
func TestBetweenTheOthers(t *testing.T) {
	for n := 1; n <= 5; n++ {
		eachList(n, -2, 2, func(l []int64) {
			checkBetween(t, l, 0, nil)
			for i := 0; i < n && n >= 3; i++ {
				checkBetween(t, l, 1, []int{i})
				for j := 0; j < i && n >= 5; j++ {
					checkBetween(t, l, 2, []int{i, j})
				}
			}
		})
	}
	for _, wrong := range edges() {
		if !isTime(wrong) {
			continue
		}
		for _, other := range edges() {
			if !isTime(other) {
				continue
			}
			for i := range 5 {
				for j := range i {
					l := []int64{other, other, other, other, other}
					l[i], l[j] = wrong, -wrong
					checkBetween(t, l, 2, []int{i, j})
				}
			}
		}
	}
}

// Every pair of lists of small numbers: their middles differ by no more than the lists do at an index.
func TestCloseLists(t *testing.T) {
	for n := 1; n <= 5; n++ {
		eachList(n, 0, 2, func(a []int64) {
			eachList(n, 0, 2, func(b []int64) {
				d := int64(0)
				for i := range a {
					d = max(d, a[i]-b[i], b[i]-a[i])
				}
				for faults := 0; 2*faults < n; faults++ {
					if apart := midOf(t, a, faults) - midOf(t, b, faults); apart > d || apart < -d {
						t.Fatalf("P1303: Mid of %v and %v with %d faults differ by %d; the lists by %d", a, b, faults, apart, d)
					}
				}
			})
		})
	}
}

// checkNear checks that the middles of a and b differ as little as the chapter says if the elements at the places in wrong are wrong.
func checkNear(t *testing.T, a, b []int64, faults int, wrong []int) {
	t.Helper()
	d, least, most := int64(0), int64(math.MaxInt64), int64(math.MinInt64)
	for i := range a {
		if !slices.Contains(wrong, i) {
			d = max(d, a[i]-b[i], b[i]-a[i])
			least, most = min(least, a[i], b[i]), max(most, a[i], b[i])
		}
	}
	bound := (most-least)/2 + d + 1
	if apart := midOf(t, a, faults) - midOf(t, b, faults); apart > bound || apart < -bound {
		t.Fatalf("P1303: Mid of %v and %v with %d faults, %v, differ by %d; more than %d", a, b, faults, wrong, apart, bound)
	}
}

// Every pair of lists of four small numbers of which any one is wrong.
func TestNearListsOfFour(t *testing.T) {
	eachList(4, -2, 2, func(a []int64) {
		eachList(4, -2, 2, func(b []int64) {
			for i := range 4 {
				checkNear(t, a, b, 1, []int{i})
			}
		})
	})
}

// Lists of as many nodes as a part may have, with as many faults as they bear, and wrong elements far off to either side.
func TestNearListsOfParts(t *testing.T) {
	r := rand.New(rand.NewPCG(13, 1303))
	for range 20000 {
		faults := r.IntN(api.MaxFaults + 1)
		n := 3*faults + 1 + r.IntN(api.MaxNodes-3*faults)
		w, d := r.Int64N(200), r.Int64N(50)
		start := r.Int64N(2*api.MaxTicks-2000) - api.MaxTicks + 1000
		wrong := r.Perm(n)[:faults]
		a, b := make([]int64, n), make([]int64, n)
		for i := range n {
			a[i] = start + r.Int64N(w+1)
			b[i] = a[i] + r.Int64N(2*d+1) - d
		}
		for _, i := range wrong {
			far := []int64{start - 300, start + 300, -api.MaxTicks, api.MaxTicks}
			a[i], b[i] = far[r.IntN(4)], far[r.IntN(4)]
		}
		checkNear(t, a, b, faults, wrong)
		checkBetween(t, a, faults, wrong)
		checkBetween(t, b, faults, wrong)
	}
}

// The order in which the elements were heard counts for nothing.
func TestAnyOrder(t *testing.T) {
	r := rand.New(rand.NewPCG(13, 1302))
	l := []int64{-api.MaxTicks, -5, -5, 0, 1, 2, 3, 4, 8, 13, api.MaxTicks}
	for range 500 {
		r.Shuffle(len(l), func(i, j int) { l[i], l[j] = l[j], l[i] })
		checkCut(t, l, 3, []int64{0, 1, 2, 3, 4}, true)
		checkMid(t, l, 3, 2, true)
		checkMid(t, l, 2, 1, true)
		checkMid(t, l, 1, 4, true)
		checkMid(t, l, 0, 0, true)
	}
}
