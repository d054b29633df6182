package verdict_test

import (
	"math"
	"math/big"
	"testing"

	"apogee/api"
	"apogee/box"
	"apogee/impact"
	"apogee/verdict"
)

func at(x, y int64) api.Point { return api.Point{X: x, Y: y} }

func square(lo, hi int64) []api.Point {
	return []api.Point{at(lo, lo), at(hi, lo), at(hi, hi), at(lo, hi)}
}

// phase is one whose area is from lo to hi in both numbers.
func phase(lo, hi, maxV int64) api.Phase {
	return api.Phase{Area: square(lo, hi), G: 2, MaxV: maxV, Min: 1}
}

// speeds are at all edges of 64 bits.
var speeds = []int64{0, 1, -1, 2, 9, -9, 1 << 16, -1 << 17, 1 << 62, -1 << 62, 1<<62 + 1, math.MaxInt64 - 1, math.MaxInt64, math.MinInt64 + 1, math.MinInt64}

type noise uint64

func (x *noise) below(n int64) int64 {
	*x ^= *x << 13
	*x ^= *x >> 7
	*x ^= *x << 17
	return int64(*x>>1) % n
}

// speedOf reckons by numbers of any size.
func speedOf(n api.Nav, most, eps int64) int {
	isSlow := true
	for _, v := range []int64{n.VX, n.VY, n.VZ} {
		size := new(big.Int).Abs(big.NewInt(v))
		if new(big.Int).Sub(size, big.NewInt(eps)).Cmp(big.NewInt(most)) > 0 {
			return -1
		}
		isSlow = isSlow && new(big.Int).Add(size, big.NewInt(eps)).Cmp(big.NewInt(most)) <= 0
	}
	if isSlow {
		return 1
	}
	return 0
}

func expectSpeed(t *testing.T, n api.Nav, most, eps int64, want int) {
	t.Helper()
	if got := verdict.Speed(n, most, eps); got != want {
		t.Fatalf("Speed of %v, %d, %d: %d, want %d", n, most, eps, got, want)
	}
}

func expectPlace(t *testing.T, n api.Nav, p api.Phase, eps int64, want int) {
	t.Helper()
	if got := verdict.Place(n, p, eps); got != want {
		t.Fatalf("Place of %v, %v, %d: %d, want %d", n, p, eps, got, want)
	}
}

func expectOf(t *testing.T, n api.Nav, p api.Phase, eps int64, want int) {
	t.Helper()
	if got := verdict.Of(n, p, eps); got != want {
		t.Fatalf("Of %v, %v, %d: %d, want %d", n, p, eps, got, want)
	}
}

// P19.1

func TestSpeed(t *testing.T) {
	for i := range 3 {
		for _, c := range []struct {
			v, most, eps int64
			want         int
		}{
			{0, 10, 0, 1}, {10, 10, 0, 1}, {11, 10, 0, -1}, {-10, 10, 0, 1}, {-11, 10, 0, -1},
			{7, 10, 3, 1}, {8, 10, 3, 0}, {13, 10, 3, 0}, {14, 10, 3, -1}, {-7, 10, 3, 1}, {-8, 10, 3, 0}, {-13, 10, 3, 0}, {-14, 10, 3, -1},
			{0, 0, 0, 1}, {0, 0, 1, 0}, {1, 0, 0, -1}, {0, -1, 0, -1}, {0, -1, 1, 0}, {0, -5, 4, -1}, {0, -5, 5, 0},
			// An eps below 0 is taken as it is.
			{9, 10, -1, 1}, {9, 10, -2, -1}, {8, 10, -2, 1}, {0, 0, -1, -1}, {0, 5, -5, 1}, {1, 5, -5, -1},
			// Numbers that are more than 64 bits hold.
			{math.MinInt64, math.MaxInt64, 0, -1}, {math.MinInt64, math.MaxInt64, 1, 0}, {math.MaxInt64, math.MaxInt64, 0, 1}, {math.MaxInt64, math.MaxInt64, 1, 0},
			{math.MinInt64, 1, math.MaxInt64, 0}, {math.MinInt64, 0, math.MaxInt64, -1}, {math.MaxInt64, math.MaxInt64, math.MaxInt64, 0}, {0, math.MaxInt64, math.MaxInt64, 1},
			{0, math.MinInt64, math.MinInt64, -1}, {0, -1, math.MinInt64, -1}, {math.MaxInt64, 5, math.MinInt64, -1}, {5, math.MaxInt64, math.MinInt64, -1}, {math.MinInt64, math.MinInt64, math.MaxInt64, -1},
			{0, math.MinInt64, math.MaxInt64, -1}, {0, math.MaxInt64, -math.MaxInt64, 1}, {1, math.MaxInt64, -math.MaxInt64, -1},
		} {
			n := api.Nav{X: 1 << 40, Z: -5, Flags: 3}
			*[]*int64{&n.VX, &n.VY, &n.VZ}[i] = c.v
			want := c.want
			if other := speedOf(api.Nav{}, c.most, c.eps); other < want {
				want = other
			}
			expectSpeed(t, n, c.most, c.eps, want)
		}
	}
}

func TestSpeedOfAll(t *testing.T) {
	for _, a := range speeds {
		for _, most := range speeds {
			for _, eps := range speeds {
				n := api.Nav{VX: a, VY: most, VZ: eps}
				expectSpeed(t, n, most, eps, speedOf(n, most, eps))
				n = api.Nav{VX: 1, VY: a, VZ: 0}
				expectSpeed(t, n, most, eps, speedOf(n, most, eps))
			}
		}
	}
	x := noise(88172645463325252)
	for range 20000 {
		n := api.Nav{VX: x.below(41) - 20, VY: x.below(41) - 20, VZ: x.below(41) - 20}
		most, eps := x.below(30)-3, x.below(12)-2
		expectSpeed(t, n, most, eps, speedOf(n, most, eps))
	}
}

func TestPlace(t *testing.T) {
	n := api.Nav{Z: 100, VX: 3} // comes down from (30, 0) to (36, 0)
	for _, c := range []struct {
		area []api.Point
		want int
	}{
		{square(-40, 40), 1},
		{square(-37, 37), 1},
		{square(-36, 36), 0},
		{square(-33, 33), 0},
		{square(-30, 30), 0},
		{square(-29, 29), -1},
		{square(50, 60), -1},
		{square(0, 60), 0},
		// What is no area has no place inside.
		{nil, -1},
		{square(-40, 40)[:2], -1},
		{[]api.Point{at(-40, -40), at(40, 40), at(40, -40), at(-40, 40)}, -1},
		{square(-1<<31, 1<<31), -1},
	} {
		p := api.Phase{Area: c.area, G: 2}
		expectPlace(t, n, p, 0, c.want)
	}
	// The error makes the box wider: from -13 to 13 around what only falls.
	still := api.Nav{Z: 100}
	expectPlace(t, still, phase(-14, 14, 1), 1, 1)
	expectPlace(t, still, phase(-13, 13, 1), 1, 0)
	expectPlace(t, still, phase(14, 20, 1), 1, -1)
	expectPlace(t, still, phase(13, 20, 1), 1, 0)
	expectPlace(t, still, phase(1, 20, 1), 0, -1)
	// By the phase's own gravity.
	p := phase(-40, 40, 1)
	p.G = 1
	expectPlace(t, n, p, 0, -1)
	p.G = 9
	expectPlace(t, n, p, 0, 1)
}

// refused are what no impact's box is of, each with an area in which it would be.
func refused() []struct {
	n      api.Nav
	g, eps int64
} {
	n := api.Nav{Z: 100}
	return []struct {
		n      api.Nav
		g, eps int64
	}{
		{n, 0, 1}, {n, 101, 1}, {n, -2, 1}, {n, 2, -1}, {n, 2, 1<<11 + 1}, {n, 2, math.MinInt64}, {n, 2, math.MaxInt64}, {n, math.MinInt64, 0},
		{api.Nav{X: 1<<31 + 1}, 2, 0}, {api.Nav{Y: -1<<31 - 1}, 2, 0}, {api.Nav{Z: 1<<31 + 1}, 2, 0}, {api.Nav{VX: 1<<17 + 1}, 2, 0}, {api.Nav{VY: -1<<17 - 1}, 2, 0}, {api.Nav{VZ: 1<<17 + 1}, 2, 0},
		{api.Nav{X: math.MinInt64}, 2, 0}, {api.Nav{VZ: math.MaxInt64}, 2, 0},
	}
}

func TestWhatIsRefused(t *testing.T) {
	for _, c := range refused() {
		for _, area := range [][]api.Point{square(-1<<30, 1<<30), square(5, 6), nil} {
			for _, maxV := range []int64{0, 1, 1 << 16, math.MaxInt64} {
				p := api.Phase{Area: area, G: c.g, MaxV: maxV}
				expectPlace(t, c.n, p, c.eps, 0)
				// Even where it is too fast for sure.
				expectOf(t, c.n, p, c.eps, api.VInvalid)
			}
		}
	}
}

func TestOf(t *testing.T) {
	n := api.Nav{Z: 100, VX: 3}
	for _, c := range []struct {
		lo, hi, maxV int64
		want         int
	}{
		{-40, 40, 9, api.VOk},
		{-40, 40, 3, api.VOk},
		{-40, 40, 2, api.VViolate},
		{-36, 36, 9, api.VEdge},
		{-36, 36, 2, api.VViolate},
		{-29, 29, 9, api.VViolate},
		{-29, 29, 2, api.VViolate},
	} {
		expectOf(t, n, phase(c.lo, c.hi, c.maxV), 0, c.want)
	}
	// With an error of 1 it comes down from (19, -13) to (49, 13), with speeds from 2 to 4.
	for _, c := range []struct {
		lo, hi, maxV int64
		want         int
	}{
		{-60, 60, 4, api.VOk},
		{-60, 60, 3, api.VEdge},
		{-60, 60, 2, api.VEdge},
		{-60, 60, 1, api.VViolate},
		{-40, 40, 4, api.VEdge},
		{-40, 40, 3, api.VEdge},
		{-40, 40, 1, api.VViolate},
		{-15, 15, 4, api.VViolate},
		{-15, 15, 3, api.VViolate},
		{60, 90, 2, api.VViolate},
	} {
		expectOf(t, n, phase(c.lo, c.hi, c.maxV), 1, c.want)
	}
	expectOf(t, n, api.Phase{G: 2, MaxV: 9}, 0, api.VViolate)
}

// TestOfAny: of all three, by what the chapter says of them.
func TestOfAny(t *testing.T) {
	x := noise(2463534242)
	counts := map[int]int{}
	for range 20000 {
		n := api.Nav{X: x.below(101) - 50, Y: x.below(101) - 50, Z: x.below(200), VX: x.below(9) - 4, VY: x.below(9) - 4, VZ: x.below(9) - 4}
		p := phase(-100-x.below(100), 100+x.below(100), 2+x.below(6))
		p.G = 1 + x.below(9)
		eps := x.below(3)
		b, ok := impact.Box(n, p.G, eps)
		speed, place := speedOf(n, p.MaxV, eps), box.Relate(b, p.Area)
		want := api.VEdge
		if !ok {
			want = api.VInvalid
		} else if speed == -1 || place == -1 {
			want = api.VViolate
		} else if speed == 1 && place == 1 {
			want = api.VOk
		}
		counts[want]++
		expectPlace(t, n, p, eps, place)
		expectOf(t, n, p, eps, want)
	}
	if counts[api.VOk] < 1000 || counts[api.VEdge] < 1000 || counts[api.VViolate] < 1000 {
		t.Errorf("the verdicts came so often: %v", counts)
	}
}

func TestJoin(t *testing.T) {
	const ok, edge, violate, invalid = api.VOk, api.VEdge, api.VViolate, api.VInvalid
	for _, c := range [][3]int{
		{ok, ok, ok}, {ok, edge, edge}, {ok, violate, violate}, {ok, invalid, ok},
		{edge, edge, edge}, {edge, violate, violate}, {edge, invalid, edge},
		{violate, violate, violate}, {violate, invalid, violate}, {invalid, invalid, invalid},
	} {
		expectJoin(t, c[0], c[1], c[2])
		// What is no verdict counts as invalid.
		for _, n := range []int{0, -1, 5, 6, -3, 100, 1<<32 + 1, math.MaxInt, math.MinInt} {
			if c[1] == invalid {
				expectJoin(t, c[0], n, c[2])
			}
			if c[0] == invalid {
				expectJoin(t, n, n, c[2])
				expectJoin(t, n, 7, c[2])
			}
		}
	}
}

func expectJoin(t *testing.T, a, b, want int) {
	t.Helper()
	if verdict.Join(a, b) != want || verdict.Join(b, a) != want {
		t.Errorf("Join of %d and %d: %d, and %d; want %d", a, b, verdict.Join(a, b), verdict.Join(b, a), want)
	}
}

func TestSure(t *testing.T) {
	for v := -3; v < 9; v++ {
		if verdict.Sure(v) != (v == api.VOk || v == api.VViolate) {
			t.Errorf("Sure of %d: %v", v, verdict.Sure(v))
		}
	}
	for _, v := range []int{math.MaxInt, math.MinInt, 1<<32 + 1, 1<<32 + 3} {
		if verdict.Sure(v) {
			t.Errorf("Sure of %d", v)
		}
	}
}

// P19.2

func TestWhatIsSureIsSoForAllThatIsNear(t *testing.T) {
	x := noise(362436069)
	sure := map[int]int{}
	for range 20000 {
		out := int64(1) << (4 + x.below(20))
		about := func(most int64) int64 { return x.below(2*most+1) - most }
		n := api.Nav{X: about(out), Y: about(out), Z: x.below(out), VX: about(9), VY: about(9), VZ: about(30)}
		p := phase(-2*out, 2*out, 3+x.below(10))
		p.G = 1 + x.below(20)
		eps, d := x.below(3), x.below(4)
		v := verdict.Of(n, p, eps+d)
		if !verdict.Sure(v) {
			continue
		}
		sure[v]++
		for range 10 {
			near := n
			for _, number := range []*int64{&near.X, &near.Y, &near.Z, &near.VX, &near.VY, &near.VZ} {
				*number += []int64{d, -d, about(d)}[x.below(3)]
			}
			expectOf(t, near, p, eps, v)
		}
	}
	if sure[api.VOk] < 1000 || sure[api.VViolate] < 1000 {
		t.Errorf("the verdicts came so often: %v", sure)
	}
}
