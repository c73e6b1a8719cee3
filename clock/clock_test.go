package clock_test

import (
	"math"
	"math/big"
	"testing"

	"drumline/api"
	"drumline/clock"
)

// times lists numbers of every size: times, those about the edges of what is a time, and wild ones.
func times() []int64 {
	l := []int64{math.MinInt64, math.MinInt64 + 1, math.MaxInt64 - 1, math.MaxInt64}
	for _, n := range []int64{0, 1, 2, 7, 999, 20000, 19998, api.Million, 123456789012, api.MaxTicks / 2, api.MaxTicks - 1, api.MaxTicks, api.MaxTicks + 1, api.MaxTicks + 2, 1 << 62} {
		l = append(l, n, -n)
	}
	return l
}

// rates lists parts of a million of every size, likewise.
func rates() []int {
	l := []int{math.MinInt, math.MinInt + 1, math.MaxInt}
	for _, n := range []int{0, 1, 2, 100, 499, api.MaxDrift, 333333, api.Million - 1, api.Million, api.Million + 1, 1 << 40} {
		l = append(l, n, -n)
	}
	return l
}

// in reports whether v is in the range least to most.
func in(v, least, most int64) bool { return v >= least && v <= most }

// gain works out, with numbers of any size, ppm millionths of x, rounded down; 0 where ticks.Scale refuses them.
func gain(x int64, ppm int) int64 {
	if !in(x, -api.MaxTicks, api.MaxTicks) || !in(int64(ppm), -api.Million, api.Million) {
		return 0
	}
	product := new(big.Int).Mul(big.NewInt(x), big.NewInt(int64(ppm)))
	// Div leaves a remainder that is never negative, so it rounds down.
	return product.Div(product, big.NewInt(api.Million)).Int64()
}

func TestRealLocalExamples(t *testing.T) {
	for _, x := range []struct {
		ticks       int64
		ppm         int
		real, local int64
	}{
		{20000, 100, 19998, 20002},
		{19998, 100, 19997, 19999},
		{20000, -100, 20002, 19998},
		{20000, 0, 20000, 20000},
		{0, api.MaxDrift, 0, 0},
		{0, -api.MaxDrift, 0, 0},
		// What a clock gains is rounded down, toward less, not toward 0.
		{20001, 100, 19999, 20003},
		{20001, -100, 20004, 19998},
		{-20001, 100, -19998, -20004},
		{-20001, -100, -20003, -19999},
		{1, 1, 1, 1},
		{1, -1, 2, 0},
		{-1, 1, 0, -2},
		{-1, -1, -1, -1},
		{7, api.Million, 0, 14},
		{7, -api.Million, 14, 0},
		{api.MaxTicks, api.Million, 0, 2 * api.MaxTicks},
		{api.MaxTicks, -api.Million, 2 * api.MaxTicks, 0},
		{-api.MaxTicks, api.Million, 0, -2 * api.MaxTicks},
		{-api.MaxTicks, -api.Million, -2 * api.MaxTicks, 0},
	} {
		if got := clock.Real(x.ticks, x.ppm); got != x.real {
			t.Errorf("P801: Real(%d, %d) = %d; want %d", x.ticks, x.ppm, got, x.real)
		}
		if got := clock.Local(x.ticks, x.ppm); got != x.local {
			t.Errorf("P801: Local(%d, %d) = %d; want %d", x.ticks, x.ppm, got, x.local)
		}
	}
}

func TestRealLocalOutOfRange(t *testing.T) {
	for _, x := range []struct {
		ticks int64
		ppm   int
	}{
		{api.MaxTicks + 1, 100},
		{-api.MaxTicks - 1, 100},
		{math.MaxInt64, -api.Million},
		{math.MinInt64, api.Million},
		{20000, api.Million + 1},
		{20000, -api.Million - 1},
		{20000, math.MaxInt},
		{20000, math.MinInt},
		{math.MinInt64, math.MinInt},
	} {
		if a, b := clock.Real(x.ticks, x.ppm), clock.Local(x.ticks, x.ppm); a != x.ticks || b != x.ticks {
			t.Errorf("P801: Real and Local of %d, %d = %d, %d; want it unchanged", x.ticks, x.ppm, a, b)
		}
	}
}

func TestRealLocalAnyNumbers(t *testing.T) {
	for _, x := range times() {
		for _, ppm := range rates() {
			more := gain(x, ppm)
			if got := clock.Real(x, ppm); got != x-more {
				t.Fatalf("P801: Real(%d, %d) = %d; want %d", x, ppm, got, x-more)
			}
			if got := clock.Local(x, ppm); got != x+more {
				t.Fatalf("P801: Local(%d, %d) = %d; want %d", x, ppm, got, x+more)
			}
		}
	}
}

func TestReadingExamples(t *testing.T) {
	for _, x := range []struct {
		start, cycle int64
		length, ppm  int
		at, want     int64
	}{
		{1000, 3, 20000, 0, 1500, 60500},
		{1000, 3, 20000, 0, 1000, 60000},
		{1000, 3, 20000, 0, 999, 59999},
		{1000, 3, 20000, 100, 20998, 79999},
		{1000, 3, 20000, -100, 21000, 79998},
		{1000, 3, 20000, 100, 999, 59998},
		{-500, 0, 1000, 0, 500, 1000},
		{0, 0, 1, 0, 0, 0},
		// A reading may be ahead of the first cycle, or behind the one that it is told from.
		{1000, 0, 20000, 0, 400, -600},
		{1000, 3, 20000, 0, 51000, 110000},
		// The edges of each range.
		{api.MaxTicks, 0, 1, 0, api.MaxTicks, 0},
		{-api.MaxTicks, 0, 1, 0, -api.MaxTicks, 0},
		{0, 0, 1, 0, api.MaxTicks, api.MaxTicks},
		{0, 0, 1, 0, -api.MaxTicks, -api.MaxTicks},
		{-1, 0, 1, 0, api.MaxTicks - 1, api.MaxTicks},
		{1, 0, 1, 0, 1 - api.MaxTicks, -api.MaxTicks},
		{0, api.MaxTicks, 1, 0, 0, api.MaxTicks},
		{0, 2, api.MaxCycle, 0, 5, 2*api.MaxCycle + 5},
		{0, 1, 10, api.Million, 5, 20},
		{0, 1, 10, -api.Million, 5, 10},
		{0, api.MaxTicks, api.MaxCycle, api.Million, api.MaxTicks, api.MaxTicks * (api.MaxCycle + 2)},
	} {
		if got, ok := clock.Reading(x.start, x.cycle, x.length, x.ppm, x.at); got != x.want || !ok {
			t.Errorf("P802: Reading(%d, %d, %d, %d, %d) = %d, %v; want %d, true", x.start, x.cycle, x.length, x.ppm, x.at, got, ok, x.want)
		}
	}
}

func TestReadingOutOfRange(t *testing.T) {
	for _, x := range []struct {
		start, cycle int64
		length, ppm  int
		at           int64
	}{
		{api.MaxTicks + 1, 1, 10, 0, api.MaxTicks},
		{-api.MaxTicks - 1, 1, 10, 0, -api.MaxTicks},
		{api.MaxTicks, 1, 10, 0, api.MaxTicks + 1},
		{-api.MaxTicks, 1, 10, 0, -api.MaxTicks - 1},
		{-1, 1, 10, 0, api.MaxTicks},
		{1, 1, 10, 0, -api.MaxTicks},
		{-api.MaxTicks, 1, 10, 0, api.MaxTicks},
		// The difference of these two wraps round to a time.
		{math.MinInt64, 1, 10, 0, math.MaxInt64},
		{math.MaxInt64, 1, 10, 0, math.MinInt64},
		{math.MaxInt64, 1, 10, 0, math.MaxInt64},
		{math.MinInt64, 1, 10, 0, math.MinInt64},
		{0, -1, 10, 0, 0},
		{0, math.MinInt64, 10, 0, 0},
		{0, api.MaxTicks + 1, 10, 0, 0},
		{0, math.MaxInt64, 10, 0, 0},
		{0, 1, 0, 0, 0},
		{0, 1, -1, 0, 0},
		{0, 1, math.MinInt, 0, 0},
		{0, 1, api.MaxCycle + 1, 0, 0},
		{0, 1, math.MaxInt, 0, 0},
		{0, 1, 10, api.Million + 1, 0},
		{0, 1, 10, -api.Million - 1, 0},
		{0, 1, 10, math.MaxInt, 5},
		{0, 1, 10, math.MinInt, 5},
	} {
		if got, ok := clock.Reading(x.start, x.cycle, x.length, x.ppm, x.at); got != 0 || ok {
			t.Errorf("P802: Reading(%d, %d, %d, %d, %d) = %d, %v; want 0, false", x.start, x.cycle, x.length, x.ppm, x.at, got, ok)
		}
	}
}

// reading works Reading out with numbers of any size.
func reading(start, cycle int64, length, ppm int, at int64) (int64, bool) {
	passed := new(big.Int).Sub(big.NewInt(at), big.NewInt(start))
	if !in(start, -api.MaxTicks, api.MaxTicks) || !in(at, -api.MaxTicks, api.MaxTicks) || passed.CmpAbs(big.NewInt(api.MaxTicks)) > 0 {
		return 0, false
	}
	if !in(cycle, 0, api.MaxTicks) || !in(int64(length), 1, api.MaxCycle) || !in(int64(ppm), -api.Million, api.Million) {
		return 0, false
	}
	sum := new(big.Int).Mul(big.NewInt(cycle), big.NewInt(int64(length)))
	sum.Add(sum, passed).Add(sum, big.NewInt(gain(passed.Int64(), ppm)))
	return sum.Int64(), sum.IsInt64()
}

func TestReadingAnyNumbers(t *testing.T) {
	good := 0
	for _, start := range times() {
		for _, at := range times() {
			for i, cycle := range times() {
				for j, length := range []int{math.MinInt, -1, 0, 1, 20000, api.MaxCycle, api.MaxCycle + 1, math.MaxInt} {
					ppm := rates()[(i*7+j*3)%len(rates())]
					want, ok := reading(start, cycle, length, ppm, at)
					if got, is := clock.Reading(start, cycle, length, ppm, at); got != want || is != ok {
						t.Fatalf("P802: Reading(%d, %d, %d, %d, %d) = %d, %v; want %d, %v", start, cycle, length, ppm, at, got, is, want, ok)
					}
					if ok {
						good++
					}
				}
			}
		}
	}
	if good < 1000 {
		t.Errorf("only %d of the arguments were in their ranges", good)
	}
}

func TestRoundExamples(t *testing.T) {
	for _, x := range []struct {
		n           int64
		length      int
		cycle, tick int64
		ok          bool
	}{
		{-1, 10, -1, 9, true},
		{0, 10, 0, 0, true},
		{9, 10, 0, 9, true},
		{10, 10, 1, 0, true},
		{25, 10, 2, 5, true},
		{-10, 10, -1, 0, true},
		{-11, 10, -2, 9, true},
		{60500, 20000, 3, 500, true},
		{7, 1, 7, 0, true},
		{-7, 1, -7, 0, true},
		{math.MaxInt64, 1, math.MaxInt64, 0, true},
		{math.MinInt64, 1, math.MinInt64, 0, true},
		{math.MaxInt64, math.MaxInt, 1, 0, true},
		{math.MinInt64, math.MaxInt, -2, math.MaxInt64 - 1, true},
		{-1, math.MaxInt, -1, math.MaxInt64 - 1, true},
		// No limit but 1 is set to the length.
		{5*api.MaxCycle + 3, 2*api.MaxCycle + 1, 2, api.MaxCycle + 1, true},
		{7, 0, 0, 0, false},
		{7, -1, 0, 0, false},
		{-7, -10, 0, 0, false},
		{math.MinInt64, -1, 0, 0, false},
		{math.MinInt64, 0, 0, 0, false},
		{math.MaxInt64, math.MinInt, 0, 0, false},
	} {
		if cycle, tick, ok := clock.Round(x.n, x.length); cycle != x.cycle || tick != x.tick || ok != x.ok {
			t.Errorf("P803: Round(%d, %d) = %d, %d, %v; want %d, %d, %v", x.n, x.length, cycle, tick, ok, x.cycle, x.tick, x.ok)
		}
	}
}

func TestRoundAnyNumbers(t *testing.T) {
	for _, n := range times() {
		for _, length := range times() {
			cycle, tick, ok := clock.Round(n, int(length))
			if length < 1 {
				if cycle != 0 || tick != 0 || ok {
					t.Fatalf("P803: Round(%d, %d) = %d, %d, %v; want 0, 0, false", n, length, cycle, tick, ok)
				}
				continue
			}
			q, m := new(big.Int).DivMod(big.NewInt(n), big.NewInt(length), new(big.Int))
			if cycle != q.Int64() || tick != m.Int64() || !ok {
				t.Fatalf("P803: Round(%d, %d) = %d, %d, %v; want %d, %d, true", n, length, cycle, tick, ok, q, m)
			}
		}
	}
}

// A reading is split into the cycle that it was told from and the ticks that have passed in it, as long as that cycle lasts.
func TestRoundOfReading(t *testing.T) {
	for _, passed := range []int64{0, 1, 500, 19999} {
		n, ok := clock.Reading(-700, 4, 20000, 0, passed-700)
		if cycle, tick, split := clock.Round(n, 20000); !ok || !split || cycle != 4 || tick != passed {
			t.Errorf("P802, P803: Round of a reading %d ticks on = %d, %d, %v, %v", passed, cycle, tick, ok, split)
		}
	}
}
