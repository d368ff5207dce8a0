package path_test

import (
	"math"
	"math/big"
	"testing"

	"helix/api"
	"helix/path"
)

// costs asks for a gap's cost, or its error.
func costs(t *testing.T, k int, lines []api.Gap, want int, wrong api.Errno) {
	t.Helper()
	if c, e := path.Cost(k, lines...); c != want || e != wrong {
		t.Errorf("Cost of %d, %v: %d, %v, not %d, %v", k, lines, c, e, want, wrong)
	}
}

func TestCostExamples(t *testing.T) {
	two := gaps(1, 3, 10, 0)
	costs(t, 3, two, 10, api.OK)
	costs(t, 4, two, 10, api.OK)
	costs(t, 0, gaps(1, 1), 0, api.ErrArg)
	costs(t, 1, nil, 0, api.ErrArg)
	costs(t, 1, []api.Gap{}, 0, api.ErrArg)
}

// TestCostIsTheLeast: of up to four lines, wherever the least one stands.
func TestCostIsTheLeast(t *testing.T) {
	lines := gaps(0, 10, 9, 5, 20, 2, 31, 0)
	for k, want := range []int{0, 10, 19, 24, 28, 30, 31, 31} {
		if k == 0 {
			continue
		}
		for turn := range 4 {
			costs(t, k, append(append([]api.Gap(nil), lines[turn:]...), lines[:turn]...), want, api.OK)
		}
	}
	costs(t, 7, gaps(4, 1), 11, api.OK)
	costs(t, 7, gaps(0, 0), 0, api.OK)
	costs(t, 7, gaps(5, 0, 5, 0), 5, api.OK)
	costs(t, 65536, gaps(3, 2), 131075, api.OK)
}

func TestCostRefuses(t *testing.T) {
	for _, k := range []int{math.MinInt, -1, 0, 65537, 65538, math.MaxInt} {
		costs(t, k, gaps(1, 1), 0, api.ErrArg)
		costs(t, k, gaps(most, most), 0, api.ErrArg)
		costs(t, k, nil, 0, api.ErrArg)
	}
	costs(t, 1, gaps(1, 1, 1, 1, 1, 1, 1, 1), 2, api.OK)
	costs(t, 1, gaps(1, 1, 1, 1, 1, 1, 1, 1, 1, 1), 0, api.ErrArg)
	costs(t, 1, make([]api.Gap, 100), 0, api.ErrArg)
	for at := range 4 {
		for _, n := range []int{math.MinInt, -most, -1, most + 1, 1 << 57, math.MaxInt} {
			for _, wrong := range []api.Gap{{Open: n}, {Extend: n}, {Open: n, Extend: 1}, {Open: 1, Extend: n}, {Open: n, Extend: n}} {
				lines := make([]api.Gap, 4)
				lines[at] = wrong
				costs(t, 1, lines, 0, api.ErrArg)
				costs(t, 65536, lines, 0, api.ErrArg)
				costs(t, 1, lines[at:], 0, api.ErrArg)
			}
		}
	}
	// A number that may not be is told ahead of a cost that is too great.
	costs(t, 65536, gaps(most, most, most+1, most), 0, api.ErrArg)
	costs(t, 65536, gaps(-1, most), 0, api.ErrArg)
}

// TestCostRange: 2^61 is told, one above it is not; only the least line counts.
func TestCostRange(t *testing.T) {
	costs(t, 1, gaps(most, most), 2*most, api.OK)
	costs(t, 31, gaps(most, most), 1<<61, api.OK)
	costs(t, 32, gaps(most, most), 0, api.ErrRange)
	costs(t, 32, gaps(0, most), 1<<61, api.OK)
	costs(t, 32, gaps(1, most), 0, api.ErrRange)
	costs(t, 33, gaps(0, most), 0, api.ErrRange)
	costs(t, 65536, gaps(0, 1<<45), 1<<61, api.OK)
	costs(t, 65536, gaps(0, 1<<45+1), 0, api.ErrRange)
	costs(t, 65536, gaps(1, 1<<45), 0, api.ErrRange)
	costs(t, 65536, gaps(65536, 1<<45-1), 1<<61, api.OK)
	costs(t, 65536, gaps(65537, 1<<45-1), 0, api.ErrRange)
	// These go round to small numbers in 64 bits.
	costs(t, 65536, gaps(5, 1<<48), 0, api.ErrRange)
	costs(t, 256, gaps(0, most), 0, api.ErrRange)
	costs(t, 65536, gaps(most, most), 0, api.ErrRange)
	costs(t, 65536, gaps(most, most, 0, 1<<48), 0, api.ErrRange)
	costs(t, 65536, gaps(most, most, 7, 0), 7, api.OK)
	costs(t, 65536, gaps(7, 0, most, most), 7, api.OK)
	costs(t, 65536, gaps(0, 1<<48, most, 0, most, most), most, api.OK)
	costs(t, 65536, gaps(most, most, most, most, most, most, 1, 1<<45-1), 1<<61-65535, api.OK)
}

// plainCost is P11.1 in numbers of any size, of what is no wrong argument.
func plainCost(k int, lines ...api.Gap) *big.Int {
	var least *big.Int
	for _, g := range lines {
		c := new(big.Int).Mul(big.NewInt(int64(g.Extend)), big.NewInt(int64(k)))
		c.Add(c, big.NewInt(int64(g.Open)))
		if least == nil || c.Cmp(least) < 0 {
			least = c
		}
	}
	return least
}

func TestCostAgainstPlain(t *testing.T) {
	beyond, told := 0, 0
	for seed := range uint64(20000) {
		m := newMaker(seed)
		lines := m.gaps(1+m.IntN(4), m.IntN(57))
		k := min(m.size(16)+1, 65536)
		if m.IntN(3) == 0 {
			k = 65536 - m.IntN(3)
			for at := range lines {
				lines[at].Extend = 1<<45 + m.either(45) + m.either(m.IntN(45))
			}
		}
		for at := range lines {
			lines[at].Extend = max(0, lines[at].Extend)
		}
		want := plainCost(k, lines...)
		if want.Cmp(new(big.Int).Lsh(big.NewInt(1), 61)) > 0 {
			costs(t, k, lines, 0, api.ErrRange)
			beyond++
			continue
		}
		costs(t, k, lines, int(want.Int64()), api.OK)
		told++
	}
	if beyond < 500 || told < 5000 {
		t.Error("of too few kinds", beyond, told)
	}
}

// TestOneGapIsNoDearer: P11.5, of the two whose columns make it up.
func TestOneGapIsNoDearer(t *testing.T) {
	for seed := range uint64(300) {
		m := newMaker(seed)
		lines := m.gaps(1+m.IntN(4), m.IntN(12))
		var cost [61]int
		for k := 1; k <= 60; k++ {
			c, e := path.Cost(k, lines...)
			if e != api.OK {
				t.Fatal(e)
			}
			cost[k] = c
			for a := 1; a < k; a++ {
				if c > cost[a]+cost[k-a] {
					t.Fatalf("%v: %d of %d, %d and %d of %d and %d", lines, c, k, cost[a], cost[k-a], a, k-a)
				}
			}
		}
	}
	for seed := range uint64(3000) {
		m := newMaker(seed)
		lines := m.gaps(1+m.IntN(4), m.IntN(57))
		a, b := 1+m.IntN(32768), 1+m.IntN(32768)
		one, e := path.Cost(a, lines...)
		two, f := path.Cost(b, lines...)
		whole, g := path.Cost(a+b, lines...)
		if e != api.OK || f != api.OK {
			continue
		}
		if g == api.OK && whole > one+two || g != api.OK && one+two <= 1<<61 {
			t.Fatalf("%v: %d, %v of %d; %d and %d of %d and %d", lines, whole, g, a+b, one, two, a, b)
		}
	}
}
