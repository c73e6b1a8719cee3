package guard_test

import (
	"math"
	"math/big"
	"slices"
	"testing"

	"drumline/api"
	"drumline/guard"
)

// on returns a guardian that is on.
func on(start int64) api.Guard { return api.Guard{On: true, Start: start} }

// times lists numbers of every size: times, those about the edges of what is a time, and wild ones.
func times() []int64 {
	l := []int64{math.MinInt64, math.MinInt64 + 1, math.MaxInt64 - 1, math.MaxInt64}
	for _, n := range []int64{0, 1, 230, 1000, 20000, 123456789012, api.MaxTicks - 1, api.MaxTicks, api.MaxTicks + 1, 2 * api.MaxTicks, 1 << 62} {
		l = append(l, n, -n)
	}
	return l
}

// rates lists parts of a million of every size, likewise.
func rates() []int {
	l := []int{math.MinInt, math.MaxInt}
	for _, n := range []int{0, 1, 100, api.MaxDrift, 333333, api.Million - 1, api.Million, api.Million + 1} {
		l = append(l, n, -n)
	}
	return l
}

// in reports whether v is in the range least to most.
func in(v, least, most int64) bool { return v >= least && v <= most }

// late works Late out with numbers of any size; false where the chapter refuses the arguments.
func late(g api.Guard, at, ppm int, arrival int64) (*big.Int, bool) {
	if !g.On || !in(g.Start, -api.MaxTicks, api.MaxTicks) || !in(int64(at), -api.MaxTicks, api.MaxTicks) || !in(arrival, -api.MaxTicks, api.MaxTicks) {
		return nil, false
	}
	gain := new(big.Int)
	if in(int64(ppm), -api.Million, api.Million) {
		gain.Mul(big.NewInt(int64(at)), big.NewInt(int64(ppm)))
		// Div leaves a remainder that is never negative, so it rounds down.
		gain.Div(gain, big.NewInt(api.Million))
	}
	d := new(big.Int).Sub(big.NewInt(arrival), big.NewInt(g.Start))
	return d.Sub(d, big.NewInt(int64(at))).Add(d, gain), true
}

func TestLateExamples(t *testing.T) {
	for _, x := range []struct {
		start   int64
		at, ppm int
		arrival int64
		want    int64
	}{
		{1000, 230, 0, 1233, 3},
		{1000, 230, 0, 1230, 0},
		{1000, 230, 0, 1227, -3},
		{1000, 230, 0, 1000, -230},
		{1000, 0, 0, 999, -1},
		{-1000, 230, 0, -770, 0},
		{1000, -230, 0, 770, 0},
		// A clock that is fast reaches at sooner, so that the same arrival is later.
		{1000, 20000, 100, 21000, 2},
		{1000, 20000, 100, 20998, 0},
		{1000, 20000, -100, 21000, -2},
		{1000, 20000, -100, 21002, 0},
		// What a clock gains is rounded down, toward less, not toward 0.
		{0, 1, 1, 1, 0},
		{0, 1, -1, 1, -1},
		{0, -1, 1, -1, -1},
		{0, -1, -1, -1, 0},
		{0, 500, api.Million, 3, 3},
		{0, 500, -api.Million, 3, -997},
		// A rate that is none counts as 0.
		{0, 500, api.Million + 1, 503, 3},
		{0, 500, -api.Million - 1, 503, 3},
		{0, 500, math.MaxInt, 503, 3},
		{0, 500, math.MinInt, 503, 3},
		// The edges of what is a time.
		{api.MaxTicks, 0, 0, api.MaxTicks, 0},
		{-api.MaxTicks, 0, 0, -api.MaxTicks, 0},
		{0, api.MaxTicks, 0, api.MaxTicks, 0},
		{0, -api.MaxTicks, 0, -api.MaxTicks, 0},
		{-api.MaxTicks, 0, 0, api.MaxTicks, 2 * api.MaxTicks},
		{-api.MaxTicks, -api.MaxTicks, 0, api.MaxTicks, 3 * api.MaxTicks},
		{-api.MaxTicks, -api.MaxTicks, -api.Million, api.MaxTicks, 4 * api.MaxTicks},
		{-api.MaxTicks, 1 - api.MaxTicks, -api.Million, api.MaxTicks, 4*api.MaxTicks - 2},
		{api.MaxTicks, api.MaxTicks, -api.Million, -api.MaxTicks, -4 * api.MaxTicks},
		{api.MaxTicks, api.MaxTicks, api.Million, -api.MaxTicks, -2 * api.MaxTicks},
	} {
		if got, ok := guard.Late(on(x.start), x.at, x.ppm, x.arrival); got != x.want || !ok {
			t.Errorf("P1001: Late of start %d, (%d, %d, %d) = %d, %v; want %d, true", x.start, x.at, x.ppm, x.arrival, got, ok, x.want)
		}
	}
}

func TestLateRefuses(t *testing.T) {
	for _, x := range []struct {
		g       api.Guard
		at, ppm int
		arrival int64
	}{
		{api.Guard{}, 0, 0, 0},
		{api.Guard{}, 230, 0, 1233},
		{api.Guard{Start: 1000}, 230, 0, 1233},
		{api.Guard{Start: 1000, Ages: []int{0, 1}}, 230, 0, 1233},
		{api.Guard{Start: math.MinInt64}, math.MinInt, math.MinInt, math.MinInt64},
		{on(api.MaxTicks + 1), 230, 0, api.MaxTicks},
		{on(-api.MaxTicks - 1), 230, 0, -api.MaxTicks},
		{on(math.MaxInt64), 230, 0, 1233},
		{on(math.MinInt64), 230, 0, 1233},
		{on(1000), api.MaxTicks + 1, 0, 1233},
		{on(1000), -api.MaxTicks - 1, 0, 1233},
		{on(1000), math.MaxInt, 0, 1233},
		{on(1000), math.MinInt, 0, 1233},
		{on(1000), 230, 0, api.MaxTicks + 1},
		{on(1000), 230, 0, -api.MaxTicks - 1},
		{on(1000), 230, 0, math.MaxInt64},
		{on(1000), 230, 0, math.MinInt64},
		// The difference of these two is a time, but they are none.
		{on(math.MaxInt64), 0, 0, math.MaxInt64},
		{on(math.MinInt64), 0, 0, math.MaxInt64},
		{on(api.MaxTicks + 1), 0, 0, api.MaxTicks + 1},
	} {
		if got, ok := guard.Late(x.g, x.at, x.ppm, x.arrival); got != 0 || ok {
			t.Errorf("P1001: Late of %v, (%d, %d, %d) = %d, %v; want 0, false", x.g, x.at, x.ppm, x.arrival, got, ok)
		}
	}
}

func TestPassExamples(t *testing.T) {
	for _, x := range []struct {
		at, ppm, window int
		arrival         int64
		want            bool
	}{
		// Both edges of a window.
		{230, 0, 2, 1233, false},
		{230, 0, 3, 1233, true},
		{230, 0, 3, 1227, true},
		{230, 0, 2, 1227, false},
		{230, 0, 3, 1226, false},
		{230, 0, 20, 1250, true},
		{230, 0, 20, 1251, false},
		{230, 0, 20, 1210, true},
		{230, 0, 20, 1209, false},
		{230, 0, 20, 1000, false},
		{230, 0, 20, -1230, false},
		// The window 0 holds the one tick alone, a negative one nothing.
		{230, 0, 0, 1230, true},
		{230, 0, 0, 1229, false},
		{230, 0, 0, 1231, false},
		{230, 0, -1, 1230, false},
		{230, 0, -1, 1231, false},
		{230, 0, -3, 1233, false},
		{230, 0, -20, 1230, false},
		{230, 0, math.MinInt, 1230, false},
		{230, 0, math.MinInt, 0, false},
		{230, 0, math.MinInt + 1, 1230, false},
		// The clock tells where the window lies.
		{20000, 100, 0, 20998, true},
		{20000, 100, 1, 21000, false},
		{20000, 100, 2, 21000, true},
		{20000, -100, 0, 21002, true},
		{20000, -100, 1, 21000, false},
		// No limit is set to the window, but what is no time stays outside.
		{230, 0, api.MaxWindow, 1230 + api.MaxWindow, true},
		{230, 0, api.MaxWindow, 1231 + api.MaxWindow, false},
		{230, 0, math.MaxInt, api.MaxTicks, true},
		{230, 0, math.MaxInt, -api.MaxTicks, true},
		{230, 0, math.MaxInt, api.MaxTicks + 1, false},
		{230, 0, math.MaxInt, -api.MaxTicks - 1, false},
		{230, 0, math.MaxInt, math.MinInt64, false},
		{api.MaxTicks, 0, math.MaxInt, 0, true},
		{api.MaxTicks + 1, 0, math.MaxInt, 0, false},
		{-api.MaxTicks - 1, 0, math.MaxInt, 0, false},
		{math.MinInt, math.MinInt, math.MaxInt, 0, false},
	} {
		if got := guard.Pass(on(1000), x.at, x.ppm, x.window, x.arrival); got != x.want {
			t.Errorf("P1001: Pass of (%d, %d, %d, %d) = %v; want %v", x.at, x.ppm, x.window, x.arrival, got, x.want)
		}
	}
}

// Without a time as its start, a guardian that is on passes nothing.
func TestPassOfStartThatIsNoTime(t *testing.T) {
	for _, start := range []int64{api.MaxTicks + 1, -api.MaxTicks - 1, math.MaxInt64, math.MinInt64} {
		for _, arrival := range append(times(), start) {
			if guard.Pass(on(start), 0, 0, math.MaxInt, arrival) {
				t.Errorf("P1001: Pass of start %d and arrival %d = true; want false", start, arrival)
			}
		}
	}
}

// A guardian that is not on passes whatever comes, whatever else it holds.
func TestPassOfGuardThatIsOff(t *testing.T) {
	for _, start := range times() {
		for _, at := range []int{math.MinInt, 0, 230, api.MaxTicks + 1, math.MaxInt} {
			for _, arrival := range times() {
				for _, window := range []int{math.MinInt, -1, 0, math.MaxInt} {
					if !guard.Pass(api.Guard{Start: start}, at, 0, window, arrival) {
						t.Fatalf("P1001: Pass of a guardian that is not on, of start %d, (%d, 0, %d, %d) = false; want true", start, at, window, arrival)
					}
				}
			}
		}
	}
}

func TestAnyNumbers(t *testing.T) {
	good := 0
	for _, start := range times() {
		for _, at := range times() {
			for _, arrival := range times() {
				for _, ppm := range rates() {
					want, ok := late(on(start), int(at), ppm, arrival)
					got, is := guard.Late(on(start), int(at), ppm, arrival)
					if is != ok || ok && want.Cmp(big.NewInt(got)) != 0 || !ok && got != 0 {
						t.Fatalf("P1001: Late of start %d, (%d, %d, %d) = %d, %v; want %v, %v", start, at, ppm, arrival, got, is, want, ok)
					}
					if ok {
						good++
					}
					checkPass(t, on(start), int(at), ppm, arrival)
				}
			}
		}
	}
	if good < 1000 {
		t.Errorf("only %d of the arguments were in their ranges", good)
	}
}

// checkPass holds Pass against numbers of any size, for wild windows, and for those about the edge at which the answer turns.
func checkPass(t *testing.T, g api.Guard, at, ppm int, arrival int64) {
	t.Helper()
	windows := []int{math.MinInt, math.MinInt + 1, -1, 0, math.MaxInt}
	want, ok := late(g, at, ppm, arrival)
	if ok {
		edge := int(want.Int64())
		windows = append(windows, edge-1, edge, edge+1, -edge-1, -edge, 1-edge)
	}
	for _, window := range windows {
		pass := ok && want.CmpAbs(big.NewInt(int64(window))) <= 0 && window >= 0
		if got := guard.Pass(g, at, ppm, window, arrival); got != pass {
			t.Fatalf("P1001: Pass of start %d, (%d, %d, %d, %d) = %v; want %v", g.Start, at, ppm, window, arrival, got, pass)
		}
	}
}

// Rule 4: the ages that a guardian holds are neither asked nor changed, nor what is behind them.
func TestArgumentsStay(t *testing.T) {
	ages := []int{3, -1, 7}
	g := on(1000)
	g.Ages = ages[:2]
	if got, ok := guard.Late(g, 230, 0, 1233); got != 3 || !ok || !guard.Pass(g, 230, 0, 3, 1233) {
		t.Errorf("P1001: Late of a guardian that holds ages = %d, %v", got, ok)
	}
	if !slices.Equal(ages, []int{3, -1, 7}) || g.Start != 1000 || !g.On || len(g.Ages) != 2 {
		t.Errorf("rule 4: an argument was changed: %v, %v", g, ages)
	}
}
