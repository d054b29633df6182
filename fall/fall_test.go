package fall_test

import (
	"math"
	"math/big"
	"slices"
	"testing"

	"apogee/fall"
)

// How great the numbers may be.
const (
	maxZ   = 1 << 31
	maxVZ  = 1 << 17
	maxG   = 100
	maxT   = 1 << 24
	maxEps = 1 << 11
)

// height is twice the height behind t cycles, as a number of any size.
func height(z, vz, g, t int64) *big.Int {
	up := new(big.Int).Mul(big.NewInt(2*vz), big.NewInt(t))
	down := new(big.Int).Mul(big.NewInt(g), new(big.Int).Mul(big.NewInt(t), big.NewInt(t)))
	return up.Add(up, big.NewInt(2*z)).Sub(up, down)
}

// lastAbove is the last of the whole cycles behind which it isn't below the ground: from where it is highest on it only falls.
func lastAbove(z, vz, g int64) int64 {
	if z < 0 {
		return 0
	}
	lo := max(0, vz/g)
	hi := int64(1 << 40)
	for hi-lo > 1 {
		if mid := (lo + hi) / 2; height(z, vz, g, mid).Sign() >= 0 {
			lo = mid
		} else {
			hi = mid
		}
	}
	return lo
}

// edges are numbers from -most to most, and beyond them.
func edges(most int64) (right, wrong []int64) {
	right = []int64{-most, -most + 1, -2, -1, 0, 1, 2, 3, most / 2, most - 1, most}
	return right, append(odd(), -most-1, most+1, 2*most, -2*most)
}

// odd are numbers that none may be.
func odd() []int64 {
	return []int64{1 << 32, 1<<32 + 5, -1 << 32, 1 << 62, -1 << 62, math.MaxInt64, math.MaxInt64 - 1, math.MinInt64, math.MinInt64 + 1}
}

// eachRight calls do with all numbers at their edges.
func eachRight(do func(z, vz, g int64)) {
	heights, _ := edges(maxZ)
	speeds, _ := edges(maxVZ)
	for _, z := range append(heights, 100, 12345, 1000000) {
		for _, vz := range append(speeds, 5, 777, -777) {
			for _, g := range []int64{1, 2, 3, 7, 50, 99, maxG} {
				do(z, vz, g)
			}
		}
	}
}

// eachWrong calls do with numbers of which one may not be, where it is above 0 and where it is below.
func eachWrong(do func(z, vz, g int64)) {
	_, heights := edges(maxZ)
	_, speeds := edges(maxVZ)
	for _, z := range heights {
		do(z, 5, 7)
	}
	for _, vz := range speeds {
		do(5, vz, 7)
		do(-5, vz, 7)
	}
	for _, g := range append(odd(), 0, -1, -7, -100, 101, 200, 1000) {
		do(5, 5, g)
		do(-5, 5, g)
		do(5, -5, g)
	}
}

type noise uint64

func (x *noise) below(n int64) int64 {
	*x ^= *x << 13
	*x ^= *x >> 7
	*x ^= *x << 17
	return int64(*x>>1) % n
}

// about is any number that is at most so far from 0, small ones as often as great ones.
func (x *noise) about(most int64) int64 {
	most = min(most, 1<<x.below(33))
	return x.below(2*most+1) - most
}

func expectTime(t *testing.T, z, vz, g, want int64) {
	t.Helper()
	if got, ok := fall.Time(z, vz, g); got != want || !ok {
		t.Fatalf("Time of %d, %d, %d: %d, %v; want %d", z, vz, g, got, ok, want)
	}
}

func expectAbove(t *testing.T, z, vz, g, cycles int64) {
	t.Helper()
	want := height(z, vz, g, cycles)
	if got, ok := fall.Above(z, vz, g, cycles); big.NewInt(got).Cmp(want) != 0 || !ok {
		t.Fatalf("Above of %d, %d, %d, %d: %d, %v; want %v", z, vz, g, cycles, got, ok, want)
	}
}

func expectSpan(t *testing.T, z, vz, g, eps, wantLo, wantHi int64) {
	t.Helper()
	if lo, hi, ok := fall.Span(z, vz, g, eps); lo != wantLo || hi != wantHi || !ok {
		t.Fatalf("Span of %d, %d, %d, %d: %d, %d, %v; want %d, %d", z, vz, g, eps, lo, hi, ok, wantLo, wantHi)
	}
}

func expectNoSpan(t *testing.T, z, vz, g, eps int64) {
	t.Helper()
	if lo, hi, ok := fall.Span(z, vz, g, eps); lo != 0 || hi != 0 || ok {
		t.Fatalf("Span of %d, %d, %d, %d: %d, %d, %v", z, vz, g, eps, lo, hi, ok)
	}
}

// P17.1

func TestTime(t *testing.T) {
	for _, c := range []struct{ z, vz, g, want int64 }{
		{100, 0, 2, 10},
		{0, 5, 1, 10},
		{0, 0, 1, 0},
		{0, -5, 1, 0},
		{1, 0, 1, 1},
		{1, 0, 3, 0},
		{2, 0, 1, 2},
		{99, 0, 2, 9},
		{101, 0, 2, 10},
		{120, 0, 2, 10},
		{121, 0, 2, 11},
		{100, -20, 2, 4},
		{100, 20, 2, 24},
		{-1, 0, 1, 0},
		{-1, 100, 1, 0},
		{-maxZ, maxVZ, 1, 0},
		{0, maxVZ, 1, 2 * maxVZ},
		{maxZ, maxVZ, 1, 277614},
		{maxZ, -maxVZ, 1, 15470},
		{maxZ, maxVZ, 100, 7994},
		{maxZ, 0, 1, 65536},
	} {
		expectTime(t, c.z, c.vz, c.g, c.want)
	}
}

func TestTimeOfAnyNumbers(t *testing.T) {
	eachRight(func(z, vz, g int64) { expectTime(t, z, vz, g, lastAbove(z, vz, g)) })
	x := noise(88172645463325252)
	for range 20000 {
		z, vz, g := x.about(maxZ), x.about(maxVZ), 1+x.below(maxG)
		expectTime(t, z, vz, g, lastAbove(z, vz, g))
	}
}

func TestAbove(t *testing.T) {
	for _, c := range []struct{ z, vz, g, t, want int64 }{
		{100, 0, 2, 10, 0}, {100, 0, 2, 11, -42}, {100, 0, 2, 0, 200}, {0, 5, 1, 5, 25}, {-3, -4, 5, 6, -234}, {maxZ, maxVZ, 1, 1, 1<<32 + 1<<18 - 1},
	} {
		if got, ok := fall.Above(c.z, c.vz, c.g, c.t); got != c.want || !ok {
			t.Errorf("Above of %v: %d, %v", c, got, ok)
		}
	}
	eachRight(func(z, vz, g int64) {
		for _, cycles := range []int64{0, 1, 2, 9, 1000, 1 << 23, maxT - 1, maxT} {
			expectAbove(t, z, vz, g, cycles)
		}
	})
}

func TestSpan(t *testing.T) {
	expectSpan(t, 100, 0, 2, 0, 10, 12)
	expectSpan(t, 0, 5, 1, 0, 10, 12)
	expectSpan(t, 0, 0, 1, 1, 0, 4)
	expectSpan(t, -5, 0, 1, 4, 0, 2)
	expectSpan(t, -5, 0, 1, 5, 0, 12)
	expectSpan(t, 5, 0, 1, 5, 0, 13)
	eachRight(func(z, vz, g int64) {
		for _, eps := range []int64{0, 1, 2, 100, maxEps - 1, maxEps} {
			// Both less or more eps may be beyond what may be else.
			expectSpan(t, z, vz, g, eps, lastAbove(z-eps, vz-eps, g), lastAbove(z+eps, vz+eps, g)+2)
		}
	})
	x := noise(2463534242)
	for range 10000 {
		z, vz, g, eps := x.about(maxZ), x.about(maxVZ), 1+x.below(maxG), x.below(maxEps+1)
		expectSpan(t, z, vz, g, eps, lastAbove(z-eps, vz-eps, g), lastAbove(z+eps, vz+eps, g)+2)
	}
}

func TestTop(t *testing.T) {
	for _, c := range []struct{ z, vz, g, want int64 }{
		{100, 0, 2, 200}, {0, 5, 1, 25}, {0, 5, 2, 12}, {0, 5, 3, 8}, {0, 5, 4, 6}, {0, 5, 7, 3}, {0, 5, 11, 0}, {7, 1, 100, 14}, {-9, 5, 1, 7}, {9, -5, 1, 18}, {9, -1, 100, 18}, {0, -maxVZ, 1, 0},
		{maxZ, maxVZ, 1, 1<<32 + 1<<34},
	} {
		if got, ok := fall.Top(c.z, c.vz, c.g); got != c.want || !ok {
			t.Errorf("Top of %v: %d, %v", c, got, ok)
		}
	}
	expectTop := func(z, vz, g int64) {
		want := height(z, vz, g, 0)
		for _, cycles := range []int64{vz / g, vz/g + 1} {
			if h := height(z, vz, g, cycles); vz >= 0 && h.Cmp(want) > 0 {
				want = h
			}
		}
		if got, ok := fall.Top(z, vz, g); big.NewInt(got).Cmp(want) != 0 || !ok {
			t.Fatalf("Top of %d, %d, %d: %d, %v; want %v", z, vz, g, got, ok, want)
		}
	}
	eachRight(expectTop)
	x := noise(362436069)
	for range 10000 {
		expectTop(x.about(maxZ), x.about(maxVZ), 1+x.below(maxG))
	}
}

// TestTopIsTheTop: behind no whole cycle it is higher.
func TestTopIsTheTop(t *testing.T) {
	for _, z := range []int64{-7, 0, 50} {
		for vz := int64(-5); vz <= 120; vz++ {
			for _, g := range []int64{1, 2, 3, 10, 99, 100} {
				got, _ := fall.Top(z, vz, g)
				most := 2 * z
				for cycles := range int64(200) {
					most = max(most, height(z, vz, g, cycles).Int64())
				}
				if got != most {
					t.Fatalf("Top of %d, %d, %d: %d, want %d", z, vz, g, got, most)
				}
			}
		}
	}
}

func TestNumbersThatMayNotBe(t *testing.T) {
	eachWrong(func(z, vz, g int64) {
		if got, ok := fall.Time(z, vz, g); got != 0 || ok {
			t.Fatalf("Time of %d, %d, %d: %d, %v", z, vz, g, got, ok)
		}
		if got, ok := fall.Top(z, vz, g); got != 0 || ok {
			t.Fatalf("Top of %d, %d, %d: %d, %v", z, vz, g, got, ok)
		}
		for _, cycles := range []int64{0, 1, 9, maxT} {
			if got, ok := fall.Above(z, vz, g, cycles); got != 0 || ok {
				t.Fatalf("Above of %d, %d, %d, %d: %d, %v", z, vz, g, cycles, got, ok)
			}
		}
		for _, eps := range []int64{0, 1, 9, maxEps} {
			expectNoSpan(t, z, vz, g, eps)
		}
	})
	for _, cycles := range append(odd(), -1, -2, maxT+1, maxT+2, 2*maxT) {
		if got, ok := fall.Above(5, 5, 5, cycles); got != 0 || ok {
			t.Errorf("Above behind %d: %d, %v", cycles, got, ok)
		}
	}
	for _, eps := range append(odd(), -1, -2, maxEps+1, maxEps+2, 2*maxEps) {
		expectNoSpan(t, 5, 5, 5, eps)
		expectNoSpan(t, -5000, 5, 5, eps)
	}
}

func TestNumbersAtTheirEdgesMayBe(t *testing.T) {
	heights, _ := edges(maxZ)
	if !slices.Contains(heights, maxZ) || !slices.Contains(heights, -maxZ) {
		t.Fatal(heights)
	}
	eachRight(func(z, vz, g int64) {
		_, okTime := fall.Time(z, vz, g)
		_, okTop := fall.Top(z, vz, g)
		_, okAbove := fall.Above(z, vz, g, maxT)
		_, _, okSpan := fall.Span(z, vz, g, maxEps)
		if !okTime || !okTop || !okAbove || !okSpan {
			t.Fatalf("%d, %d, %d may not be", z, vz, g)
		}
	})
}

// P17.2

func TestOnTheGroundBehindTime(t *testing.T) {
	x := noise(123456789)
	expectSure := func(z, vz, g int64) {
		if z < 0 {
			return
		}
		cycles, _ := fall.Time(z, vz, g)
		above, okAbove := fall.Above(z, vz, g, cycles)
		below, okBelow := fall.Above(z, vz, g, cycles+2)
		if above < 0 || below >= 0 || !okAbove || !okBelow {
			t.Fatalf("%d, %d, %d behind %d cycles: %d, and then %d", z, vz, g, cycles, above, below)
		}
	}
	eachRight(expectSure)
	for range 20000 {
		expectSure(x.about(maxZ), x.about(maxVZ), 1+x.below(maxG))
	}
}

func TestTimeGrowsWithHeightAndSpeed(t *testing.T) {
	x := noise(987654321)
	for range 20000 {
		z, vz, g := x.about(maxZ), x.about(maxVZ), 1+x.below(maxG)
		higher, faster := min(maxZ, z+x.below(1<<x.below(32))), min(maxVZ, vz+x.below(1<<x.below(18)))
		first, _ := fall.Time(z, vz, g)
		up, _ := fall.Time(higher, vz, g)
		fast, _ := fall.Time(z, faster, g)
		if up < first || fast < first {
			t.Fatalf("Time of %d, %d, %d: %d; of the height %d: %d; of the speed %d: %d", z, vz, g, first, higher, up, faster, fast)
		}
	}
}

// TestSpanIsSure: of whatever is near, the last cycle behind which it isn't below the ground, and the first one behind which it is, are both from lo to hi.
func TestSpanIsSure(t *testing.T) {
	x := noise(192837465)
	for range 20000 {
		z, vz, g, eps := x.about(maxZ), x.about(maxVZ), 1+x.below(maxG), x.below(1+int64(1)<<x.below(12))
		lo, hi, _ := fall.Span(z, vz, g, eps)
		nearZ := z + []int64{eps, -eps, 0, x.below(2*eps+1) - eps}[x.below(4)]
		nearVZ := vz + []int64{eps, -eps, 0, x.below(2*eps+1) - eps}[x.below(4)]
		if nearZ < 0 {
			continue
		}
		last := lastAbove(nearZ, nearVZ, g)
		if last < lo || last+1 > hi {
			t.Fatalf("%d, %d, %d, %d: from %d to %d; but %d, %d is on the ground behind %d", z, vz, g, eps, lo, hi, nearZ, nearVZ, last)
		}
	}
}
