package impact_test

import (
	"math"
	"math/big"
	"slices"
	"testing"

	"apogee/api"
	"apogee/box"
	"apogee/fall"
	"apogee/impact"
)

// How great the numbers may be.
const (
	maxPlace = 1 << 31
	maxSpeed = 1 << 17
	maxG     = 100
	maxT     = 1 << 24
	maxEps   = 1 << 11
)

func at(x, y int64) api.Point { return api.Point{X: x, Y: y} }

func from(loX, loY, hiX, hiY int64) api.Box { return api.Box{Lo: at(loX, loY), Hi: at(hiX, hiY)} }

var noBox api.Box
var noPlace api.Point

// end is the least or the greatest of what the chapter says, as a number of any size: a place, and an error, and a speed with an error times one of both times.
func end(place, speed, eps, lo, hi, sign int64) int64 {
	var list []*big.Int
	for _, v := range []int64{speed - eps, speed + eps} {
		for _, t := range []int64{lo, hi} {
			list = append(list, new(big.Int).Mul(big.NewInt(v), big.NewInt(t)))
		}
	}
	slices.SortFunc(list, (*big.Int).Cmp)
	product := list[0]
	if sign > 0 {
		product = list[3]
	}
	return new(big.Int).Add(big.NewInt(place+sign*eps), product).Int64()
}

// boxOf is what Box should tell of what may be.
func boxOf(n api.Nav, g, eps int64) api.Box {
	lo, hi, _ := fall.Span(n.Z, n.VZ, g, eps)
	return from(end(n.X, n.VX, eps, lo, hi, -1), end(n.Y, n.VY, eps, lo, hi, -1), end(n.X, n.VX, eps, lo, hi, 1), end(n.Y, n.VY, eps, lo, hi, 1))
}

// lastAbove is the last of the whole cycles behind which it isn't below the ground.
func lastAbove(n api.Nav, g int64) int64 {
	t := max(0, n.VZ/g)
	for 2*n.Z+2*n.VZ*(t+1)-g*(t+1)*(t+1) >= 0 {
		t++
	}
	return t
}

// numbers are a nav's six numbers, and how great each one may be.
func numbers(n *api.Nav) ([]*int64, []int64) {
	return []*int64{&n.X, &n.Y, &n.Z, &n.VX, &n.VY, &n.VZ}, []int64{maxPlace, maxPlace, maxPlace, maxSpeed, maxSpeed, maxSpeed}
}

// odd are numbers that none may be.
func odd() []int64 {
	return []int64{1 << 33, -1 << 33, 1<<32 + 5, 1 << 62, -1 << 62, math.MaxInt64, math.MinInt64, math.MinInt64 + 1}
}

type noise uint64

func (x *noise) below(n int64) int64 {
	*x ^= *x << 13
	*x ^= *x >> 7
	*x ^= *x << 17
	return int64(*x>>1) % n
}

// about is any number that is at most so far from 0, small ones as often as great ones.
func (x *noise) about(most int64) int64 {
	most = min(most, 1<<x.below(33))
	return []int64{x.below(2*most+1) - most, most, -most}[x.below(5)%3]
}

// nav is any one that may be reckoned with.
func (x *noise) nav() api.Nav {
	n := api.Nav{Count: int(x.below(9)), Flags: int(x.below(3))}
	list, most := numbers(&n)
	for i, p := range list {
		*p = x.about(most[i])
	}
	return n
}

// near is one whose numbers are all within eps.
func (x *noise) near(n api.Nav, eps int64) api.Nav {
	list, _ := numbers(&n)
	for _, p := range list {
		*p += []int64{eps, -eps, 0, x.below(2*eps+1) - eps}[x.below(4)]
	}
	return n
}

func expectBox(t *testing.T, n api.Nav, g, eps int64, want api.Box) {
	t.Helper()
	if got, ok := impact.Box(n, g, eps); got != want || !ok {
		t.Fatalf("Box of %v, %d, %d: %v, %v; want %v", n, g, eps, got, ok, want)
	}
	// How far At is from each side.
	p, _ := impact.At(n, g)
	slack := max(p.X-want.Lo.X, want.Hi.X-p.X, p.Y-want.Lo.Y, want.Hi.Y-p.Y)
	if got, ok := impact.Slack(n, g, eps); got != slack || !ok {
		t.Fatalf("Slack of %v, %d, %d: %d, %v; want %d", n, g, eps, got, ok, slack)
	}
}

func expectAt(t *testing.T, n api.Nav, g int64, want api.Point) {
	t.Helper()
	if got, ok := impact.At(n, g); got != want || !ok {
		t.Fatalf("At of %v, %d: %v, %v; want %v", n, g, got, ok, want)
	}
}

func expectWay(t *testing.T, n api.Nav, g, cycles int64, want api.Point) {
	t.Helper()
	if got, ok := impact.Way(n, g, cycles); got != want || !ok {
		t.Fatalf("Way of %v, %d, %d: %v, %v; want %v", n, g, cycles, got, ok, want)
	}
}

func expectNoBox(t *testing.T, n api.Nav, g, eps int64) {
	t.Helper()
	if got, ok := impact.Box(n, g, eps); got != noBox || ok {
		t.Fatalf("Box of %v, %d, %d: %v, %v", n, g, eps, got, ok)
	}
	if got, ok := impact.Slack(n, g, eps); got != 0 || ok {
		t.Fatalf("Slack of %v, %d, %d: %d, %v", n, g, eps, got, ok)
	}
}

func expectNothing(t *testing.T, n api.Nav, g int64) {
	t.Helper()
	for _, eps := range []int64{0, 1, maxEps} {
		expectNoBox(t, n, g, eps)
	}
	if got, ok := impact.At(n, g); got != noPlace || ok {
		t.Fatalf("At of %v, %d: %v, %v", n, g, got, ok)
	}
	for _, cycles := range []int64{0, 1, maxT} {
		if got, ok := impact.Way(n, g, cycles); got != noPlace || ok {
			t.Fatalf("Way of %v, %d, %d: %v, %v", n, g, cycles, got, ok)
		}
	}
}

// P18.1

func TestBox(t *testing.T) {
	for _, c := range []struct {
		n      api.Nav
		g, eps int64
		want   api.Box
	}{
		{api.Nav{Z: 100, VX: 3}, 2, 0, from(30, 0, 36, 0)},
		{api.Nav{Z: 100, VX: -3}, 2, 0, from(-36, 0, -30, 0)},
		{api.Nav{Z: 100, VY: 3}, 2, 0, from(0, 30, 0, 36)},
		{api.Nav{X: 7, Y: -8, Z: 100, VX: 3, VY: -5}, 2, 0, from(37, -68, 43, -58)},
		// From 9 to 12 cycles, as z is 99 or 101 and vz -1 or 1.
		{api.Nav{Z: 100}, 2, 1, from(-13, -13, 13, 13)},
		{api.Nav{Z: 100, VX: 1}, 2, 1, from(-1, -13, 25, 13)},
		{api.Nav{Z: 100, VX: 5, VY: -5}, 2, 1, from(35, -73, 73, -35)},
		// On the ground, and below it.
		{api.Nav{VX: 9, VY: -9}, 2, 0, from(0, -18, 18, 0)},
		{api.Nav{X: 4, Z: -50, VX: 9, VY: -9, VZ: 100}, 2, 0, from(4, -18, 22, 0)},
		// Count and flags aren't asked.
		{api.Nav{Count: -9, Flags: 7, Z: 100, VX: 3}, 2, 0, from(30, 0, 36, 0)},
	} {
		expectBox(t, c.n, c.g, c.eps, c.want)
	}
}

// TestTheGreatestNumbers: nothing is lost on the way.
func TestTheGreatestNumbers(t *testing.T) {
	n := api.Nav{X: maxPlace, Y: -maxPlace, Z: maxPlace, VX: maxSpeed, VY: -maxSpeed, VZ: maxSpeed}
	expectAt(t, n, 1, at(maxPlace+maxSpeed*277614, -maxPlace-maxSpeed*277614))
	expectBox(t, n, 1, 0, from(maxPlace+maxSpeed*277614, -maxPlace-maxSpeed*277616, maxPlace+maxSpeed*277616, -maxPlace-maxSpeed*277614))
	expectBox(t, n, 1, maxEps, boxOf(n, 1, maxEps))
	expectWay(t, n, 1, maxT, at(maxPlace+maxSpeed*maxT, -maxPlace-maxSpeed*maxT))
}

func TestBoxOfAnyNavs(t *testing.T) {
	x := noise(88172645463325252)
	for range 20000 {
		n, g, eps := x.nav(), 1+x.below(maxG), x.below(1+int64(1)<<x.below(12))
		expectBox(t, n, g, eps, boxOf(n, g, eps))
	}
}

func TestAt(t *testing.T) {
	expectAt(t, api.Nav{Z: 100, VX: 3}, 2, at(30, 0))
	expectAt(t, api.Nav{X: 7, Y: -8, Z: 100, VX: 3, VY: -5}, 2, at(37, -58))
	expectAt(t, api.Nav{X: 7, Y: -8, VX: 3, VY: -5, VZ: 5}, 1, at(37, -58))
	expectAt(t, api.Nav{X: 7, Y: -8, VX: 3, VY: -5}, 1, at(7, -8))
	expectAt(t, api.Nav{X: 7, Y: -8, Z: -1, VX: 3, VY: -5, VZ: 99}, 1, at(7, -8))
	x := noise(2463534242)
	for range 10000 {
		n, g := x.nav(), 1+x.below(maxG)
		cycles, _ := fall.Time(n.Z, n.VZ, g)
		expectAt(t, n, g, at(n.X+n.VX*cycles, n.Y+n.VY*cycles))
	}
}

func TestSlack(t *testing.T) {
	for _, c := range []struct {
		n      api.Nav
		g, eps int64
		want   int64
	}{
		{api.Nav{Z: 100, VX: 3}, 2, 0, 6},
		{api.Nav{Z: 100, VX: -3}, 2, 0, 6},
		{api.Nav{Z: 100, VY: 3}, 2, 0, 6},
		{api.Nav{Z: 100, VY: -3}, 2, 0, 6},
		{api.Nav{Z: 100, VX: 3, VY: -5}, 2, 0, 10},
		{api.Nav{Z: 100}, 2, 0, 0},
		{api.Nav{X: 5000, Y: -5000, Z: 100}, 2, 1, 13},
		// At is (10, 0), and the Box from -1 to 25.
		{api.Nav{Z: 100, VX: 1}, 2, 1, 15},
		{api.Nav{Z: 100, VX: -1}, 2, 1, 15},
		{api.Nav{Z: 100, VY: 1}, 2, 1, 15},
		{api.Nav{Z: 100, VY: -1}, 2, 1, 15},
	} {
		if got, ok := impact.Slack(c.n, c.g, c.eps); got != c.want || !ok {
			t.Errorf("Slack of %v, %d, %d: %d, %v; want %d", c.n, c.g, c.eps, got, ok, c.want)
		}
	}
}

func TestWay(t *testing.T) {
	n := api.Nav{X: 7, Y: -8, Z: 100, VX: 3, VY: -5}
	for cycles, want := range map[int64]api.Point{0: at(7, -8), 1: at(10, -13), 10: at(37, -58), 1000: at(3007, -5008), maxT: at(7+3*maxT, -8-5*maxT)} {
		expectWay(t, n, 2, cycles, want)
	}
	x := noise(362436069)
	for range 10000 {
		n, cycles := x.nav(), x.below(maxT+1)
		expectWay(t, n, 1+x.below(maxG), cycles, at(n.X+n.VX*cycles, n.Y+n.VY*cycles))
	}
}

func TestNumbersAtTheirEdges(t *testing.T) {
	for i := range 6 {
		for _, n := range []api.Nav{{}, {X: 5, Y: 6, Z: 7, VX: 8, VY: 9, VZ: 10}, {Z: -90, VX: 3}} {
			list, most := numbers(&n)
			for _, right := range []int64{most[i], -most[i], most[i] - 1, 1 - most[i], 0} {
				*list[i] = right
				expectBox(t, n, 7, 3, boxOf(n, 7, 3))
				expectBox(t, n, 1, maxEps, boxOf(n, 1, maxEps))
				expectWay(t, n, 7, 0, at(n.X, n.Y))
			}
			for _, wrong := range append(odd(), most[i]+1, -most[i]-1) {
				*list[i] = wrong
				expectNothing(t, n, 7)
			}
		}
	}
	n := api.Nav{X: 5, Y: 6, Z: 7, VX: 8, VY: 9, VZ: 10}
	for _, g := range append(odd(), 0, -1, -7, 101, 1000) {
		expectNothing(t, n, g)
		expectNothing(t, api.Nav{Z: -5}, g)
	}
	for _, g := range []int64{1, 2, 99, 100} {
		expectBox(t, n, g, 3, boxOf(n, g, 3))
	}
	for _, eps := range append(odd(), -1, -2, maxEps+1, 2*maxEps) {
		expectNoBox(t, n, 7, eps)
	}
	for _, cycles := range append(odd(), -1, maxT+1) {
		if got, ok := impact.Way(n, 7, cycles); got != noPlace || ok {
			t.Errorf("Way behind %d: %v, %v", cycles, got, ok)
		}
	}
}

// P18.2

// TestTheBoxIsSure: whatever is near comes down in it, at any time of the cycle in which it does, in sixteenths.
func TestTheBoxIsSure(t *testing.T) {
	x := noise(123456789)
	down := 0
	for range 10000 {
		n, g, eps := x.nav(), 1+x.below(maxG), x.below(1+int64(1)<<x.below(12))
		near := x.near(n, eps)
		if near.Z < 0 {
			continue
		}
		down++
		b, _ := impact.Box(n, g, eps)
		last := lastAbove(near, g)
		for part := range int64(17) {
			sixteenths := 16*last + part
			placeX, placeY := 16*near.X+near.VX*sixteenths, 16*near.Y+near.VY*sixteenths
			if placeX < 16*b.Lo.X || placeX > 16*b.Hi.X || placeY < 16*b.Lo.Y || placeY > 16*b.Hi.Y {
				t.Fatalf("%v, %d, %d: %v; but %v comes down at %d, %d sixteenths", n, g, eps, b, near, placeX, placeY)
			}
		}
	}
	if down < 3000 {
		t.Errorf("only %d came down", down)
	}
}

func TestTheBoxOfOneThatIsNearIsInTheGreaterBox(t *testing.T) {
	x := noise(987654321)
	many := 0
	for range 20000 {
		n, g, eps, d := x.nav(), 1+x.below(maxG), x.below(1+int64(1)<<x.below(11)), x.below(1+int64(1)<<x.below(11))
		greater, ok := impact.Box(n, g, eps+d)
		if !ok {
			t.Fatalf("none of %v, %d, %d", n, g, eps+d)
		}
		// What is near may be beyond what may be reckoned with.
		if b, ok := impact.Box(x.near(n, d), g, eps); ok {
			many++
			if !box.In(b, greater) {
				t.Fatalf("%v isn't in %v, of %v, %d, %d and %d", b, greater, n, g, eps, d)
			}
		}
	}
	if many < 5000 {
		t.Errorf("only %d could be reckoned with", many)
	}
}
