package tick

import (
	"math"
	"math/big"
	"testing"

	"decorum/api"
)

var extremes = []int{
	0, 1, -1, 2, -2, 3, 7, 999, 1000, 1001, -1000, 1 << 30, 1 << 31, -(1 << 31), 1 << 32, 1 << 40, 1<<61 - 1, 1 << 61, -(1 << 61),
	api.MaxInt - 1, api.MaxInt, -api.MaxInt, api.MaxInt + 1, -api.MaxInt - 1, math.MaxInt, math.MinInt, math.MaxInt - 1, math.MinInt + 1,
}

func number(a int) *big.Int { return big.NewInt(int64(a)) }

func clamped(b *big.Int) *big.Int {
	top := number(api.MaxInt)
	if b.CmpAbs(top) <= 0 {
		return b
	}
	if b.Sign() < 0 {
		return top.Neg(top)
	}
	return top
}

func TestArithmetic(t *testing.T) {
	for _, a := range extremes {
		for _, b := range extremes {
			x, y := clamped(number(a)), clamped(number(b))
			for _, c := range []struct {
				name string
				got  int
				want *big.Int
			}{
				{"Add", Add(a, b), clamped(new(big.Int).Add(x, y))},
				{"Sub", Sub(a, b), clamped(new(big.Int).Sub(x, y))},
				{"Mul", Mul(a, b), clamped(new(big.Int).Mul(x, y))},
			} {
				if number(c.got).Cmp(c.want) != 0 {
					t.Errorf("%s(%d, %d) = %d, not %d", c.name, a, b, c.got, c.want)
				}
			}
		}
	}
}

func TestShl(t *testing.T) {
	for _, a := range extremes {
		for _, n := range []int{math.MinInt, -1, 0, 1, 2, 31, 60, 61, 62, 63, 64, 65, 200} {
			want := clamped(new(big.Int).Lsh(clamped(number(a)), uint(max(n, 0))))
			if got := Shl(a, n); number(got).Cmp(want) != 0 {
				t.Errorf("Shl(%d, %d) = %d, not %d", a, n, got, want)
			}
		}
	}
	if Shl(1, math.MaxInt) != api.MaxInt || Shl(-1, math.MaxInt) != -api.MaxInt || Shl(0, math.MaxInt) != 0 {
		t.Error("Shl by very much")
	}
}

func TestClock(t *testing.T) {
	for _, c := range []struct{ last, raw, want int }{
		{0, 0, 0}, {5, 4, 5}, {5, 6, 6}, {5, -6, 5}, {-5, -6, -5}, {-5, -4, -4},
		{0, api.MaxMs, api.MaxMs}, {0, api.MaxMs + 1, api.MaxMs}, {0, math.MaxInt, api.MaxMs}, {7, math.MinInt, 7},
		{api.MaxMs + 5, math.MaxInt, api.MaxMs + 5}, {math.MaxInt, 0, math.MaxInt},
	} {
		if got := Clock(c.last, c.raw); got != c.want {
			t.Errorf("Clock(%d, %d) = %d, not %d", c.last, c.raw, got, c.want)
		}
	}
}

func TestFill(t *testing.T) {
	zero := new(big.Int)
	least := func(a int) *big.Int {
		if a < 0 {
			return zero
		}
		return number(a)
	}
	for _, level := range extremes {
		for _, rate := range extremes {
			for _, burst := range []int{math.MinInt, -1, 0, 1, 3, 1 << 20, math.MaxInt} {
				for _, ms := range extremes {
					want := new(big.Int).Mul(least(rate), least(ms))
					want = clamped(want.Add(want, least(level)))
					if most := new(big.Int).Mul(number(1000), least(burst)); want.Cmp(most) > 0 {
						want = most
					}
					if got := Fill(level, rate, burst, ms); number(got).Cmp(want) != 0 {
						t.Fatalf("Fill(%d, %d, %d, %d) = %d, not %d", level, rate, burst, ms, got, want)
					}
				}
			}
		}
	}
}

func TestTake(t *testing.T) {
	for _, c := range []struct {
		level, want int
		ok          bool
	}{
		{1000, 0, true}, {999, 999, false}, {0, 0, false}, {-5, -5, false}, {2500, 1500, true},
		{math.MaxInt, math.MaxInt - 1000, true}, {math.MinInt, math.MinInt, false},
	} {
		if got, ok := Take(c.level); got != c.want || ok != c.ok {
			t.Errorf("Take(%d) = %d, %v", c.level, got, ok)
		}
	}
}

func TestWait(t *testing.T) {
	for _, c := range []struct{ level, rate, want int }{
		{1000, 0, 0}, {1000, -1, 0}, {math.MaxInt, 0, 0}, {999, 0, api.Never}, {0, -3, api.Never}, {0, math.MinInt, api.Never},
		{0, 1, 1000}, {0, 7, 143}, {999, 1, 1}, {999, math.MaxInt, 1}, {0, math.MaxInt, 1}, {0, 1000, 1}, {0, 999, 2},
		{-1, 1, 1000}, {math.MinInt, 1, 1000}, {500, 250, 2}, {500, 251, 2}, {500, 249, 3},
	} {
		if got := Wait(c.level, c.rate); got != c.want {
			t.Errorf("Wait(%d, %d) = %d, not %d", c.level, c.rate, got, c.want)
		}
	}
	for level := range 1000 {
		for rate := 1; rate < 1100; rate += 13 {
			ms := Wait(level, rate)
			if level+rate*ms < 1000 || level+rate*(ms-1) >= 1000 {
				t.Fatalf("Wait(%d, %d) = %d", level, rate, ms)
			}
		}
	}
}
