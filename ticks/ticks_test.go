package ticks_test

import (
	"math"
	"math/big"
	"testing"

	"drumline/api"
	"drumline/ticks"
)

// spread lists numbers of every size, thick around the powers of 2 and around the numbers that the document names.
func spread() []int64 {
	var l []int64
	around := func(n int64) {
		for d := int64(-3); d <= 3; d++ {
			l = append(l, n+d, -(n + d))
		}
	}
	around(0)
	for k := range 63 {
		around(1 << k)
	}
	around(math.MaxInt64 - 3)
	around(api.Million)
	around(api.MaxTicks)
	return append(l, math.MinInt64, math.MinInt64+1)
}

// floorOf divides with numbers of any size: DivMod's remainder is never negative, so for a positive b it rounds down.
func floorOf(a, b *big.Int) int64 {
	q, _ := new(big.Int).DivMod(a, b, new(big.Int))
	return q.Int64()
}

func TestFloorCeilExamples(t *testing.T) {
	for _, x := range []struct{ a, b, down, up int64 }{
		{-7, 2, -4, -3},
		{7, 2, 3, 4},
		{-8, 2, -4, -4},
		{8, 2, 4, 4},
		{0, 1, 0, 0},
		{0, math.MaxInt64, 0, 0},
		{1, math.MaxInt64, 0, 1},
		{-1, math.MaxInt64, -1, 0},
		{math.MinInt64, 1, math.MinInt64, math.MinInt64},
		{math.MinInt64, 2, math.MinInt64 / 2, math.MinInt64 / 2},
		{math.MinInt64, math.MaxInt64, -2, -1},
		{math.MaxInt64, 1, math.MaxInt64, math.MaxInt64},
		{math.MaxInt64, 2, math.MaxInt64 / 2, math.MaxInt64/2 + 1},
	} {
		if down, ok := ticks.Floor(x.a, x.b); down != x.down || !ok {
			t.Errorf("P101: Floor(%d, %d) = %d, %v; want %d, true", x.a, x.b, down, ok, x.down)
		}
		if up, ok := ticks.Ceil(x.a, x.b); up != x.up || !ok {
			t.Errorf("P101: Ceil(%d, %d) = %d, %v; want %d, true", x.a, x.b, up, ok, x.up)
		}
	}
}

func TestFloorCeilAnyNumbers(t *testing.T) {
	for _, a := range spread() {
		for _, b := range spread() {
			down, isDown := ticks.Floor(a, b)
			up, isUp := ticks.Ceil(a, b)
			if b < 1 {
				if down != 0 || isDown || up != 0 || isUp {
					t.Fatalf("P101: %d by %d: Floor %d, %v; Ceil %d, %v; want 0, false", a, b, down, isDown, up, isUp)
				}
				continue
			}
			wantDown := floorOf(big.NewInt(a), big.NewInt(b))
			wantUp := -floorOf(new(big.Int).Neg(big.NewInt(a)), big.NewInt(b))
			if down != wantDown || !isDown {
				t.Fatalf("P101: Floor(%d, %d) = %d, %v; want %d, true", a, b, down, isDown, wantDown)
			}
			if up != wantUp || !isUp {
				t.Fatalf("P101: Ceil(%d, %d) = %d, %v; want %d, true", a, b, up, isUp, wantUp)
			}
		}
	}
}

func TestScaleExamples(t *testing.T) {
	for _, x := range []struct {
		x    int64
		ppm  int
		want int64
		ok   bool
	}{
		{20000, -150, -3, true},
		{20000, 150, 3, true},
		{20001, -150, -4, true},
		{0, api.Million, 0, true},
		{1, api.Million, 1, true},
		{1, api.Million - 1, 0, true},
		{-1, 1, -1, true},
		{-1, -1, 0, true},
		{api.MaxTicks, api.Million, api.MaxTicks, true},
		{api.MaxTicks, -api.Million, -api.MaxTicks, true},
		{-api.MaxTicks, api.Million, -api.MaxTicks, true},
		{-api.MaxTicks, -api.Million, api.MaxTicks, true},
		{api.MaxTicks + 1, 0, 0, false},
		{-api.MaxTicks - 1, 0, 0, false},
		{0, api.Million + 1, 0, false},
		{0, -api.Million - 1, 0, false},
		{math.MinInt64, 1, 0, false},
		{math.MaxInt64, 1, 0, false},
		{1, math.MinInt, 0, false},
		{1, math.MaxInt, 0, false},
		{math.MinInt64, math.MinInt, 0, false},
	} {
		if got, ok := ticks.Scale(x.x, x.ppm); got != x.want || ok != x.ok {
			t.Errorf("P102: Scale(%d, %d) = %d, %v; want %d, %v", x.x, x.ppm, got, ok, x.want, x.ok)
		}
	}
}

func TestScaleAnyNumbers(t *testing.T) {
	million := big.NewInt(api.Million)
	for _, x := range spread() {
		for _, p := range spread() {
			ppm := int(p)
			var want int64
			ok := -api.MaxTicks <= x && x <= api.MaxTicks && -api.Million <= ppm && ppm <= api.Million
			if ok {
				want = floorOf(new(big.Int).Mul(big.NewInt(x), big.NewInt(int64(ppm))), million)
			}
			if got, is := ticks.Scale(x, ppm); got != want || is != ok {
				t.Fatalf("P102: Scale(%d, %d) = %d, %v; want %d, %v", x, ppm, got, is, want, ok)
			}
		}
	}
}

func TestClampExamples(t *testing.T) {
	for _, x := range []struct{ v, most, want int64 }{
		{9, 4, 4},
		{-9, 4, -4},
		{5, 4, 4},
		{-5, 4, -4},
		{4, 4, 4},
		{-4, 4, -4},
		{3, 4, 3},
		{0, 4, 0},
		{7, 0, 0},
		{-7, 0, 0},
		{7, -1, 0},
		{-7, -9, 0},
		{0, -9, 0},
		{5, math.MinInt64, 0},
		{-5, math.MinInt64, 0},
		{math.MinInt64, math.MinInt64, 0},
		{math.MinInt64, math.MaxInt64, -math.MaxInt64},
		{math.MaxInt64, math.MaxInt64, math.MaxInt64},
		{math.MinInt64, 1, -1},
		{math.MaxInt64, 1, 1},
	} {
		if got := ticks.Clamp(x.v, x.most); got != x.want {
			t.Errorf("P103: Clamp(%d, %d) = %d; want %d", x.v, x.most, got, x.want)
		}
	}
}

func TestClampAnyNumbers(t *testing.T) {
	for _, v := range spread() {
		for _, most := range spread() {
			bound := most
			if bound < 0 {
				bound = 0
			}
			want := v
			if v > bound {
				want = bound
			} else if v < -bound {
				want = -bound
			}
			if got := ticks.Clamp(v, most); got != want {
				t.Fatalf("P103: Clamp(%d, %d) = %d; want %d", v, most, got, want)
			}
		}
	}
}

func TestAddExamples(t *testing.T) {
	for _, x := range []struct{ a, b, want int64 }{
		{2, 3, 5},
		{-2, -3, -5},
		{2, -3, -1},
		{math.MaxInt64, 1, math.MaxInt64},
		{1, math.MaxInt64, math.MaxInt64},
		{math.MaxInt64, math.MaxInt64, math.MaxInt64},
		{math.MaxInt64 - 1, 1, math.MaxInt64},
		{math.MaxInt64, 0, math.MaxInt64},
		{math.MinInt64, -1, math.MinInt64},
		{-1, math.MinInt64, math.MinInt64},
		{math.MinInt64, math.MinInt64, math.MinInt64},
		{math.MinInt64 + 1, -1, math.MinInt64},
		{math.MinInt64, 0, math.MinInt64},
		{0, math.MinInt64, math.MinInt64},
		{math.MaxInt64, math.MinInt64, -1},
		{math.MinInt64, math.MaxInt64, -1},
	} {
		if got := ticks.Add(x.a, x.b); got != x.want {
			t.Errorf("P103: Add(%d, %d) = %d; want %d", x.a, x.b, got, x.want)
		}
	}
}

func TestAddAnyNumbers(t *testing.T) {
	least, most := big.NewInt(math.MinInt64), big.NewInt(math.MaxInt64)
	for _, a := range spread() {
		for _, b := range spread() {
			want := new(big.Int).Add(big.NewInt(a), big.NewInt(b))
			if want.Cmp(least) < 0 {
				want = least
			} else if want.Cmp(most) > 0 {
				want = most
			}
			if got := ticks.Add(a, b); got != want.Int64() {
				t.Fatalf("P103: Add(%d, %d) = %d; want %d", a, b, got, want)
			}
		}
	}
}
