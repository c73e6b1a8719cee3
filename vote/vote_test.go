package vote_test

import (
	"math"
	"math/rand/v2"
	"reflect"
	"slices"
	"testing"

	"drumline/api"
	"drumline/vote"
)

// content returns a content.
func content(cycle int64, ages ...int) api.Content {
	return api.Content{Cycle: cycle, Ages: ages}
}

// heard returns what was heard of a node in the slot with the number of the node.
func heard(kind, node int, cycle int64, ages ...int) api.Heard {
	return api.Heard{Slot: node, Frame: api.Frame{Kind: kind, Node: node, Cycle: cycle, Ages: ages}}
}

// few lists contents that are alike in every way but one.
func few() []api.Content {
	return []api.Content{content(1), content(1, 0), content(1, 0, 1), content(1, 1, 0), content(2, 0, 1), content(-1, 0, 1)}
}

// equal compares two contents by another way than the package does.
func equal(a, b api.Content) bool {
	if a.Cycle != b.Cycle || len(a.Ages) != len(b.Ages) {
		return false
	}
	for i := range a.Ages {
		if a.Ages[i] != b.Ages[i] {
			return false
		}
	}
	return true
}

// win counts each content of l against all others.
func win(l []api.Content) (int, int) {
	at, times := -1, 0
	for i, a := range l {
		n := 0
		for _, b := range l {
			if equal(a, b) {
				n++
			}
		}
		if n > times {
			at, times = i, n
		}
	}
	return at, times
}

func TestSameExamples(t *testing.T) {
	for _, x := range []struct {
		a, b api.Content
		want bool
	}{
		{content(1, 0, 1), content(1, 0, 1), true},
		{content(1, 0, 1), content(1, 0, 2), false},
		{content(1, 0, 1), content(1, 5, 1), false},
		{content(1, 0, 1), content(2, 0, 1), false},
		// The order of the ages counts, and how many there are.
		{content(1, 0, 1), content(1, 1, 0), false},
		{content(1, 0, 1), content(1, 0), false},
		{content(1, 0, 1), content(1, 0, 1, 0), false},
		{content(1, 0), content(1), false},
		{content(0), content(0, 0), false},
		// A list that is nil is one that is empty.
		{api.Content{}, api.Content{}, true},
		{api.Content{}, api.Content{Ages: []int{}}, true},
		{api.Content{Ages: make([]int, 0, 4)}, api.Content{}, true},
		{api.Content{}, content(1), false},
		// Numbers of any value.
		{content(math.MinInt64, math.MaxInt, -1), content(math.MinInt64, math.MaxInt, -1), true},
		{content(math.MinInt64), content(math.MaxInt64), false},
		{content(0, math.MinInt), content(0, math.MaxInt), false},
		{content(0), content(1 << 32), false},
		{content(0), content(math.MinInt64), false},
		{content(7, 0), content(7, 1<<32), false},
		{content(7, 0), content(7, math.MinInt), false},
		{content(7, 1), content(7, -1), false},
		{content(7), content(-7), false},
		// What is added to one and taken from another one is not made up for.
		{content(1, 0, 2), content(1, 1, 1), false},
		{content(1, 2), content(2, 1), false},
	} {
		if got := vote.Same(x.a, x.b); got != x.want {
			t.Errorf("P1401: Same(%v, %v) = %v; want %v", x.a, x.b, got, x.want)
		}
		if got := vote.Same(x.b, x.a); got != x.want {
			t.Errorf("P1401: Same(%v, %v) = %v; want %v", x.b, x.a, got, x.want)
		}
	}
}

// A difference in any one of the ages counts, however many there are.
func TestSameEachAge(t *testing.T) {
	for n := range api.MaxParts + 3 {
		a := content(5, make([]int, n)...)
		for i := range n {
			for _, v := range []int{1, -1, api.MaxAges, math.MinInt, math.MaxInt} {
				b := content(5, make([]int, n)...)
				b.Ages[i] = v
				if vote.Same(a, b) {
					t.Errorf("P1401: Same(%v, %v) = true; want false", a, b)
				}
				c := content(5, b.Ages...)
				if !vote.Same(b, c) {
					t.Errorf("P1401: Same(%v, %v) = false; want true", b, c)
				}
			}
		}
	}
}

func TestWinExamples(t *testing.T) {
	a, b, c, d := content(7, 0, 1), content(7, 0, 2), content(6, 0, 1), content(7, 0, 1, 0)
	for _, x := range []struct {
		l         []api.Content
		at, times int
	}{
		{nil, -1, 0},
		{[]api.Content{}, -1, 0},
		{[]api.Content{a}, 0, 1},
		{[]api.Content{{}}, 0, 1},
		{[]api.Content{a, b, b, a}, 0, 2},
		{[]api.Content{b, a, a, b}, 0, 2},
		{[]api.Content{a, b, b}, 1, 2},
		{[]api.Content{b, a, b}, 0, 2},
		{[]api.Content{b, b, a}, 0, 2},
		// Of those that occur once each, the first, whichever is the less.
		{[]api.Content{a, b, c, d}, 0, 1},
		{[]api.Content{d, c, b, a}, 0, 1},
		{[]api.Content{c, d, a, b}, 0, 1},
		// The one that occurs first counts, not the one whose last or second one stands ahead.
		{[]api.Content{c, a, b, b, a}, 1, 2},
		{[]api.Content{c, b, a, a, b}, 1, 2},
		{[]api.Content{d, b, a, a, c, c, b}, 1, 2},
		// The most count, though others occur ahead of them, and often.
		{[]api.Content{a, a, b, b, b}, 2, 3},
		{[]api.Content{b, b, a, a, a}, 2, 3},
		{[]api.Content{a, b, c, d, d}, 3, 2},
		{[]api.Content{d, c, b, a, a}, 3, 2},
		{[]api.Content{a, a, a, a}, 0, 4},
		// What differs in the number of ages alone, and nil and empty lists.
		{[]api.Content{a, d, d}, 1, 2},
		{[]api.Content{content(1), content(1, 0), content(1, 0)}, 1, 2},
		{[]api.Content{{}, {Ages: []int{}}, content(0, 0)}, 0, 2},
		{[]api.Content{content(0, 0), {Ages: []int{}}, {}}, 1, 2},
		// Numbers of any value.
		{[]api.Content{content(math.MinInt64), content(math.MaxInt64), content(math.MaxInt64)}, 1, 2},
		{[]api.Content{content(math.MaxInt64), content(math.MinInt64), content(math.MinInt64)}, 1, 2},
		{[]api.Content{content(1, math.MaxInt), content(1, math.MinInt), content(1, math.MaxInt), content(1, math.MinInt)}, 0, 2},
	} {
		if at, times := vote.Win(x.l); at != x.at || times != x.times {
			t.Errorf("P1401: Win(%v) = %d, %d; want %d, %d", x.l, at, times, x.at, x.times)
		}
	}
}

// Every list of up to 6 of a few contents, against a count of each with each.
func TestWinSmallLists(t *testing.T) {
	var l []api.Content
	var grow func()
	grow = func() {
		at, times := win(l)
		if i, n := vote.Win(l); i != at || n != times {
			t.Fatalf("P1401: Win(%v) = %d, %d; want %d, %d", l, i, n, at, times)
		}
		if len(l) == 6 {
			return
		}
		for _, c := range few() {
			l = append(l, c)
			grow()
			l = l[:len(l)-1]
		}
	}
	grow()
}

// Longer lists that are thrown, of few and of many contents.
func TestWinThrownLists(t *testing.T) {
	r := rand.New(rand.NewPCG(14, 1))
	for range 2000 {
		kinds := 1 + r.IntN(9)
		l := make([]api.Content, r.IntN(60))
		for i := range l {
			l[i] = content(int64(r.IntN(kinds))-2, make([]int, r.IntN(3))...)
			for j := range l[i].Ages {
				l[i].Ages[j] = r.IntN(kinds) - 2
			}
		}
		at, times := win(l)
		if i, n := vote.Win(l); i != at || n != times {
			t.Fatalf("P1401: Win(%v) = %d, %d; want %d, %d", l, i, n, at, times)
		}
	}
}

// Numbers of any value, whose differences wrap round.
func TestWinWildNumbers(t *testing.T) {
	r := rand.New(rand.NewPCG(14, 3))
	wild := []int64{math.MinInt64, -1 << 62, -1 << 61, -1, 0, 1 << 31, 1 << 61, 1 << 62, math.MaxInt64}
	for range 2000 {
		l := make([]api.Content, r.IntN(40))
		for i := range l {
			l[i] = content(wild[r.IntN(len(wild))])
			if r.IntN(2) == 0 {
				l[i] = content(5, int(l[i].Cycle))
			}
		}
		at, times := win(l)
		if i, n := vote.Win(l); i != at || n != times {
			t.Fatalf("P1401: Win(%v) = %d, %d; want %d, %d", l, i, n, at, times)
		}
	}
}

// A long list of contents that all occur equally often, but for one.
func TestWinLongList(t *testing.T) {
	const n = 100000
	var l []api.Content
	for i := range 2 * n {
		l = append(l, content(int64((i*7919)%n), 0, 1))
	}
	if at, times := vote.Win(l); at != 0 || times != 2 {
		t.Errorf("P1401: Win of a long list = %d, %d; want 0, 2", at, times)
	}
	l = append(l, l[n-1])
	if at, times := vote.Win(l); at != n-1 || times != 3 {
		t.Errorf("P1401: Win of a long list = %d, %d; want %d, 3", at, times, n-1)
	}
}

// Rule 4: the contents stay in their order, and what is behind them counts for nothing and stays, too.
func TestWinMemory(t *testing.T) {
	ages := []int{0, 1, 77}
	l := []api.Content{{Cycle: 9, Ages: ages[:2]}, content(5), content(7), content(5), content(7), content(7)}
	if at, times := vote.Win(l[:4]); at != 1 || times != 2 {
		t.Errorf("P1401: Win of a list with more behind it = %d, %d; want 1, 2", at, times)
	}
	want := []api.Content{content(9, 0, 1), content(5), content(7), content(5), content(7), content(7)}
	if !slices.EqualFunc(l, want, equal) || !slices.Equal(ages, []int{0, 1, 77}) {
		t.Errorf("rule 4: the list was changed: %v, %v", l, ages)
	}
	if !vote.Same(api.Content{Cycle: 1, Ages: ages[:2]}, content(1, 0, 1)) {
		t.Error("P1401: Same of a list with more behind it = false; want true")
	}
}

func TestEnoughExamples(t *testing.T) {
	for _, x := range []struct {
		votes, faults int
		want          bool
	}{
		{3, 1, true},
		{2, 1, false},
		{4, 1, true},
		{1, 0, true},
		{0, 0, false},
		{-1, 0, false},
		{5, 2, true},
		{4, 2, false},
		{7, 3, true},
		{6, 3, false},
		{12, 3, true},
		// Numbers of faults beside the range are refused, however many votes there are.
		{9, 4, false},
		{100, 4, false},
		{math.MaxInt, 4, false},
		{1, -1, false},
		{0, -1, false},
		{-1, -1, false},
		{5, -1, false},
		{math.MaxInt, -1, false},
		{math.MaxInt, math.MinInt, false},
		{math.MaxInt, math.MaxInt, false},
		{0, math.MinInt, false},
		// Twice these wraps round to what would be enough.
		{1, math.MaxInt/2 + 1, false},
		{1, math.MaxInt, false},
		{3, math.MinInt + 1, false},
		{3, 1<<32 + 1, false},
		{math.MaxInt, 0, true},
		{math.MaxInt, 3, true},
		{math.MinInt, 0, false},
		{math.MinInt, 3, false},
		{1<<32 + 7, 3, true},
		{-3, 1, false},
	} {
		if got := vote.Enough(x.votes, x.faults); got != x.want {
			t.Errorf("P1402: Enough(%d, %d) = %v; want %v", x.votes, x.faults, got, x.want)
		}
	}
}

func TestEnoughSmallNumbers(t *testing.T) {
	need := map[int]int{0: 1, 1: 3, 2: 5, 3: 7}
	for votes := -20; votes <= 40; votes++ {
		for faults := -20; faults <= 20; faults++ {
			n, known := need[faults]
			if got := vote.Enough(votes, faults); got != (known && votes >= n) {
				t.Errorf("P1402: Enough(%d, %d) = %v; want %v", votes, faults, got, !got)
			}
		}
	}
}

// backers checks what Backers answers: the elements of l at the indexes want, whole.
func backers(t *testing.T, what string, l []api.Heard, want ...int) {
	t.Helper()
	got := vote.Backers(l)
	if len(got) != len(want) {
		t.Errorf("P1402: %s: Backers = %v; want those at %v", what, got, want)
		return
	}
	for i, at := range want {
		if !reflect.DeepEqual(got[i], l[at]) {
			t.Errorf("P1402: %s: Backers answers %v at %d; want %v", what, got[i], i, l[at])
		}
	}
}

func TestBackersExamples(t *testing.T) {
	backers(t, "none", nil)
	backers(t, "none", []api.Heard{})
	backers(t, "one", []api.Heard{heard(api.Sync, 0, 7, 0, 1)}, 0)
	backers(t, "an empty frame of the kind", []api.Heard{{Frame: api.Frame{Kind: api.Sync}}}, 0)
	a, b, c := heard(api.Sync, 0, 7, 0, 1), heard(api.Sync, 1, 7, 0, 2), heard(api.Sync, 2, 6, 0, 1)
	backers(t, "the most", []api.Heard{a, b, b}, 1, 2)
	backers(t, "the most", []api.Heard{c, a, c, b, c}, 0, 2, 4)
	backers(t, "the most", []api.Heard{b, c, a, a}, 2, 3)
	backers(t, "all", []api.Heard{a, a, a}, 0, 1, 2)
	backers(t, "as many: the first", []api.Heard{a, b, b, a}, 0, 3)
	backers(t, "as many: the first", []api.Heard{b, a, a, b}, 0, 3)
	backers(t, "once each: the first", []api.Heard{b, a, c}, 0)
	backers(t, "once each: the first", []api.Heard{c, b, a}, 0)
	// The number of ages counts, too; nil and empty lists do not differ.
	more := heard(api.Sync, 3, 7, 0, 1, 0)
	backers(t, "more ages", []api.Heard{a, more, more}, 1, 2)
	none, empty := heard(api.Sync, 1, 7), heard(api.Sync, 2, 7)
	none.Frame.Ages, empty.Frame.Ages = nil, []int{}
	backers(t, "no ages", []api.Heard{a, none, empty}, 1, 2)
}

// Frames of other kinds neither count nor are answered, even with the content that wins.
func TestBackersOtherKinds(t *testing.T) {
	sync, other := heard(api.Sync, 0, 7, 0, 1), heard(api.Sync, 1, 6, 0, 1)
	for _, kind := range []int{api.Cold, api.Gate, api.Member, api.Data, 0, 6, -1, -2, 258, 1<<32 + 2, math.MinInt, math.MaxInt} {
		x, y := heard(kind, 2, 7, 0, 1), heard(kind, 3, 6, 0, 1)
		backers(t, "no such frame", []api.Heard{x})
		backers(t, "no such frame", []api.Heard{x, y, x})
		backers(t, "one such frame", []api.Heard{x, sync, y}, 1)
		backers(t, "one such frame", []api.Heard{y, y, sync}, 2)
		// Without the others, the first one counts, of as many.
		backers(t, "others that would turn it", []api.Heard{sync, y, other, y, y}, 0)
		backers(t, "others that would turn it", []api.Heard{y, sync, other, x}, 1)
		// The index among the frames of this kind is not the one in the list.
		backers(t, "others between", []api.Heard{y, x, sync, y, other, x, sync, x, other, sync}, 2, 6, 9)
	}
}

// Nothing but the cycle and the ages is compared, and an element is answered with all that it holds.
func TestBackersWholeElements(t *testing.T) {
	l := []api.Heard{heard(api.Sync, 0, 7, 0, 1), heard(api.Sync, 1, 6, 0, 1)}
	for i := range 6 {
		h := heard(api.Sync, 2, 7, 0, 1)
		f := &h.Frame
		switch i {
		case 0:
			h.Slot, h.At = math.MinInt, math.MaxInt64
		case 1:
			f.Part, f.Node = 5, math.MaxInt
		case 2:
			f.Wait, f.Mask, f.Link, f.Flag = 1, 4095, -3, true
		case 3:
			f.Offset, f.Seq = -9, math.MinInt64
		case 4:
			f.From, f.To = 4, 2
		case 5:
			f.Body = []byte{1, 2, 3}
		}
		l = append(l, h, heard(api.Sync, 3, 6, 0, 1), h)
	}
	var want []int
	for i, h := range l {
		if h.Frame.Cycle == 7 {
			want = append(want, i)
		}
	}
	backers(t, "whole elements", l, want...)
}

// Thrown lists, against the count of each with each.
func TestBackersThrownLists(t *testing.T) {
	r := rand.New(rand.NewPCG(14, 2))
	for range 3000 {
		l := make([]api.Heard, r.IntN(14))
		var held []api.Content
		for i := range l {
			x := few()[r.IntN(len(few()))]
			l[i] = heard(1+r.IntN(3), r.IntN(12), x.Cycle, x.Ages...)
			l[i].Frame.Mask, l[i].At = r.IntN(4096), r.Int64()
			if l[i].Frame.Kind == api.Sync {
				held = append(held, x)
			}
		}
		var want []int
		at, _ := win(held)
		for i, h := range l {
			if h.Frame.Kind == api.Sync && equal(content(h.Frame.Cycle, h.Frame.Ages...), held[at]) {
				want = append(want, i)
			}
		}
		backers(t, "thrown", l, want...)
	}
}

// Rule 4: nothing that is handed in is changed, and no list of an answer shares memory with it, with another list of the answer or with another answer.
func TestBackersMemory(t *testing.T) {
	ages, body := []int{0, 1, 77, 77}, []byte{5, 6, 88, 88}
	h := heard(api.Sync, 0, 7, ages[:2]...)
	h.Frame.Body = body[:2]
	all := []api.Heard{heard(api.Sync, 4, 6, 9), h, h, h, heard(api.Sync, 4, 6, 9), heard(api.Sync, 4, 6, 9), heard(api.Sync, 4, 6, 9)}
	h.Frame.Ages, h.Frame.Body = slices.Clone(h.Frame.Ages), slices.Clone(h.Frame.Body)
	first, again := vote.Backers(all[:4]), vote.Backers(all[:4])
	if len(first) != 3 {
		t.Fatalf("P1402: Backers of a list with more behind it answers %d elements; want 3", len(first))
	}
	spoil(first[0].Frame)
	for i, l := range [][]api.Heard{first[1:], again, all[1:4]} {
		for _, x := range l {
			if !reflect.DeepEqual(x, h) {
				t.Errorf("rule 4: %d: an element was changed by way of another one: %v", i, x)
			}
		}
	}
	if !slices.Equal(ages, []int{0, 1, 77, 77}) || !slices.Equal(body, []byte{5, 6, 88, 88}) {
		t.Errorf("rule 4: lists that were handed in were changed: %v, %v", ages, body)
	}
	first = first[:cap(first)]
	clear(first)
	for i, x := range all {
		if want := heard(api.Sync, 4, 6, 9); (i == 0 || i > 3) && !reflect.DeepEqual(x, want) {
			t.Errorf("rule 4: element %d was changed: %v", i, x)
		}
	}
	if all[1].Frame.Cycle != 7 || again[0].Frame.Cycle != 7 {
		t.Error("rule 4: an answer shares its elements")
	}
}

// spoil overwrites all that the lists of f reach.
func spoil(f api.Frame) {
	for i := range f.Ages[:cap(f.Ages)] {
		f.Ages[:cap(f.Ages)][i] = 99
	}
	for i := range f.Body[:cap(f.Body)] {
		f.Body[:cap(f.Body)][i] = 99
	}
}

func TestMaskExamples(t *testing.T) {
	for _, x := range []struct {
		nodes []int
		want  int
	}{
		{nil, 0},
		{[]int{0}, 1},
		{[]int{1}, 2},
		{[]int{11}, 2048},
		{[]int{0, 2, 2, 11}, 2053},
		{[]int{11, 2, 0, 2}, 2053},
		{[]int{3, 3}, 8},
		{[]int{3, 3, 3}, 8},
		{[]int{0, 1, 2, 3, 4, 5, 6, 7, 8, 9, 10, 11}, 4095},
		// Numbers that no node can have.
		{[]int{12}, 0},
		{[]int{-1}, 0},
		{[]int{13, 31, 32, 33, 62, 63, 64, 65, 1 << 32, math.MaxInt}, 0},
		{[]int{-11, -12, -63, -64, -1 << 32, math.MinInt}, 0},
		{[]int{12, -1, math.MinInt, math.MaxInt, 1}, 2},
		{[]int{5, 12, 5, -1, 4}, 48},
	} {
		var l []api.Heard
		for i, n := range x.nodes {
			// Slots, kinds and all else play no part.
			l = append(l, api.Heard{Slot: 7 - i, At: int64(i), Frame: api.Frame{Kind: i - 1, Node: n, Part: 1, Mask: 4095 * i}})
		}
		if got := vote.Mask(l); got != x.want {
			t.Errorf("P1402: Mask of the nodes %v = %d; want %d", x.nodes, got, x.want)
		}
	}
	if got := vote.Mask([]api.Heard{}); got != 0 {
		t.Errorf("P1402: Mask of an empty list = %d; want 0", got)
	}
}

// Every set of nodes, each once and each twice, in either direction.
func TestMaskEverySet(t *testing.T) {
	for want := range 1 << api.MaxNodes {
		var l []api.Heard
		for n := range api.MaxNodes {
			if want>>n&1 == 1 {
				l = append(l, heard(api.Sync, n, 7, 0))
			}
		}
		twice := append(slices.Clone(l), l...)
		slices.Reverse(twice)
		for _, x := range [][]api.Heard{l, twice} {
			if got := vote.Mask(x); got != want {
				t.Fatalf("P1402: Mask of %d frames = %d; want %d", len(x), got, want)
			}
		}
	}
}

// What the layers above do: those that hold what most hold, which nodes they are, and whether they are enough.
func TestMajority(t *testing.T) {
	l := []api.Heard{heard(api.Sync, 0, 7, 0, 1), heard(api.Gate, 1, 7), heard(api.Sync, 2, 7, 0, 1), heard(api.Sync, 5, 3, 0, 1), heard(api.Sync, 11, 7, 0, 1)}
	b := vote.Backers(l)
	if got := vote.Mask(b); got != 2053 {
		t.Errorf("P1402: Mask of Backers = %d; want 2053", got)
	}
	if !vote.Enough(len(b), 1) || vote.Enough(len(b), 2) {
		t.Errorf("P1402: %d backers are enough for 1 fault, not for 2", len(b))
	}
}
