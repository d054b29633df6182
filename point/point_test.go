package point_test

import (
	"math"
	"math/big"
	"testing"

	"apogee/api"
	"apogee/point"
)

const far = 1 << 40

func at(x, y int64) api.Point { return api.Point{X: x, Y: y} }

// wrongs are numbers that no place has.
var wrongs = []int64{far + 1, -far - 1, 1 << 41, -1 << 41, 1 << 62, -1 << 62, math.MinInt64 + 1, math.MinInt64, math.MaxInt64}

// wrongPlaces may not be.
func wrongPlaces() []api.Point {
	var list []api.Point
	for _, n := range wrongs {
		for _, other := range []int64{0, 1, far, -far, n} {
			list = append(list, at(n, other), at(other, n))
		}
	}
	return list
}

// corners are the places furthest out, and others near them.
func corners() []api.Point {
	var list []api.Point
	for _, x := range []int64{-far, -far + 1, -1, 0, 1, far - 1, far} {
		for _, y := range []int64{-far, 0, 1, far - 1, far} {
			list = append(list, at(x, y))
		}
	}
	return list
}

// grid are all places from 0 to most in both numbers.
func grid(most int64) []api.Point {
	var list []api.Point
	for x := range most + 1 {
		for y := range most + 1 {
			list = append(list, at(x, y))
		}
	}
	return list
}

type noise uint64

func (x *noise) below(n int64) int64 {
	*x ^= *x << 13
	*x ^= *x >> 7
	*x ^= *x << 17
	return int64(*x>>1) % n
}

// place is any one that is at most so far out.
func (x *noise) place(out int64) api.Point {
	return at(x.below(2*out+1)-out, x.below(2*out+1)-out)
}

// cross is the area of both ways from a on, with its sign, as a number of any size.
func cross(a, b, c api.Point) *big.Int {
	less := func(n, m int64) *big.Int { return new(big.Int).Sub(big.NewInt(n), big.NewInt(m)) }
	left := new(big.Int).Mul(less(b.X, a.X), less(c.Y, a.Y))
	return left.Sub(left, new(big.Int).Mul(less(b.Y, a.Y), less(c.X, a.X)))
}

func square(a, b api.Point) *big.Int {
	dx := new(big.Int).Sub(big.NewInt(a.X), big.NewInt(b.X))
	dy := new(big.Int).Sub(big.NewInt(a.Y), big.NewInt(b.Y))
	return dx.Mul(dx, dx).Add(dx, dy.Mul(dy, dy))
}

// isOn tells by distances: p is of the way, if it is in its line, and neither further from a than b is, nor from b than a is.
func isOn(p, a, b api.Point) bool {
	length := square(a, b)
	return cross(a, b, p).Sign() == 0 && square(a, p).Cmp(length) <= 0 && square(b, p).Cmp(length) <= 0
}

// doMeet tells by where both lines cross: as a part of each way, from its beginning on.
func doMeet(a, b, c, d api.Point) bool {
	// The area of both directions: that of (b - a) and (d - c).
	both := new(big.Int).Sub(cross(a, b, d), cross(a, b, c))
	if both.Sign() == 0 {
		return isOn(a, c, d) || isOn(b, c, d) || isOn(c, a, b) || isOn(d, a, b)
	}
	isPart := func(n *big.Int) bool {
		part := new(big.Rat).SetFrac(n, both)
		return part.Sign() >= 0 && part.Cmp(big.NewRat(1, 1)) <= 0
	}
	return isPart(cross(c, d, a)) && isPart(new(big.Int).Neg(cross(a, b, c)))
}

func expectTurn(t *testing.T, a, b, c api.Point, want int) {
	t.Helper()
	if got := point.Turn(a, b, c); got != want {
		t.Fatalf("Turn of %v, %v, %v: %d, want %d", a, b, c, got, want)
	}
}

func expectOn(t *testing.T, p, a, b api.Point, want bool) {
	t.Helper()
	if point.On(p, a, b) != want || point.On(p, b, a) != want {
		t.Fatalf("On of %v, from %v to %v: %v, and back %v; want %v", p, a, b, point.On(p, a, b), point.On(p, b, a), want)
	}
}

// expectMeet asks it of both ways in each direction, and each one first.
func expectMeet(t *testing.T, a, b, c, d api.Point, want bool) {
	t.Helper()
	for _, w := range [][4]api.Point{{a, b, c, d}, {b, a, c, d}, {a, b, d, c}, {b, a, d, c}, {c, d, a, b}, {d, c, a, b}, {c, d, b, a}, {d, c, b, a}} {
		if point.Meet(w[0], w[1], w[2], w[3]) != want {
			t.Fatalf("Meet of %v: %v", w, !want)
		}
	}
}

func expectMove(t *testing.T, p api.Point, x, y int64, want api.Point, ok bool) {
	t.Helper()
	if got, gotOK := point.Move(p, x, y); got != want || gotOK != ok {
		t.Fatalf("Move of %v by %d, %d: %v, %v; want %v, %v", p, x, y, got, gotOK, want, ok)
	}
}

// P10.1

func TestRight(t *testing.T) {
	for _, p := range append(corners(), at(3, -7), at(1<<31, -1<<31), at(1<<32, 1<<39)) {
		if !point.Right(p) {
			t.Errorf("%v may not be", p)
		}
	}
	for _, p := range wrongPlaces() {
		if point.Right(p) {
			t.Errorf("%v may be", p)
		}
	}
}

func TestTurn(t *testing.T) {
	for _, c := range []struct {
		a, b, c api.Point
		want    int
	}{
		{at(0, 0), at(1, 0), at(1, 1), 1},
		{at(0, 0), at(1, 0), at(1, -1), -1},
		{at(0, 0), at(0, 1), at(-1, 5), 1},
		{at(0, 0), at(0, 1), at(1, 5), -1},
		{at(0, 0), at(0, -1), at(1, -5), 1},
		{at(5, 5), at(4, 5), at(0, 4), 1},
		{at(5, 5), at(4, 5), at(0, 6), -1},
		{at(0, 0), at(1, 1), at(2, 2), 0},
		{at(0, 0), at(2, 2), at(1, 1), 0},
		{at(1, 1), at(0, 0), at(3, 3), 0},
		{at(3, 4), at(3, 4), at(7, 1), 0},
		{at(3, 4), at(7, 1), at(3, 4), 0},
		{at(7, 1), at(3, 4), at(3, 4), 0},
		{at(3, 4), at(3, 4), at(3, 4), 0},
		{at(0, 0), at(3, 1), at(6, 3), 1},
		{at(0, 0), at(3, 1), at(6, 2), 0},
		{at(0, 0), at(3, 1), at(6, 1), -1},
		// These turn by the least that there is between places, over the greatest ways.
		{at(-far, -far), at(far, far), at(far-1, far), 1},
		{at(-far, -far), at(far, far), at(far, far-1), -1},
		{at(-far, -far), at(far, far-1), at(0, 0), 1},
		{at(-far, -far), at(far-1, far), at(0, 0), -1},
		{at(-far, -far), at(far, far), at(0, 0), 0},
		{at(-far, far), at(far, -far), at(1, -1), 0},
		{at(-far, far), at(far, -far), at(1, 0), 1},
		{at(far, 0), at(-far, 1), at(far, far), -1},
		{at(0, -far), at(0, far), at(-far, 0), 1},
	} {
		expectTurn(t, c.a, c.b, c.c, c.want)
	}
}

func TestTurnOfAnyPlaces(t *testing.T) {
	list := append(grid(3), corners()...)
	for _, a := range list {
		for _, b := range list {
			for _, c := range list {
				expectTurn(t, a, b, c, cross(a, b, c).Sign())
			}
		}
	}
	x := noise(88172645463325252)
	for range 5000 {
		out := int64(1) << x.below(41)
		a, b, c := x.place(out), x.place(out), x.place(out)
		expectTurn(t, a, b, c, cross(a, b, c).Sign())
	}
}

func TestOn(t *testing.T) {
	a, b := at(1, 2), at(7, 5)
	for _, p := range []api.Point{a, b, at(3, 3), at(5, 4)} {
		expectOn(t, p, a, b, true)
	}
	// In its line, but beyond its ends; in its box, but beside its line; and all else.
	for _, p := range []api.Point{at(-1, 1), at(9, 6), at(-3, 0), at(3, 4), at(4, 3), at(4, 4), at(1, 5), at(7, 2), at(0, 0), at(1, 3), at(7, 6)} {
		expectOn(t, p, a, b, false)
	}
	for _, p := range []api.Point{at(4, 2), at(1, 2), at(9, 2)} {
		expectOn(t, p, at(1, 2), at(9, 2), true)
		expectOn(t, at(p.Y, p.X), at(2, 1), at(2, 9), true)
	}
	for _, p := range []api.Point{at(0, 2), at(10, 2), at(5, 1), at(5, 3)} {
		expectOn(t, p, at(1, 2), at(9, 2), false)
		expectOn(t, at(p.Y, p.X), at(2, 1), at(2, 9), false)
	}
	expectOn(t, at(0, 0), at(-far, -far), at(far, far), true)
	expectOn(t, at(far-1, far), at(-far, -far), at(far, far), false)
	expectOn(t, at(1, 0), at(-far, -far), at(far, far), false)
}

func TestOnAWayOfOnePlace(t *testing.T) {
	for _, a := range append(grid(2), corners()...) {
		expectOn(t, a, a, a, true)
		for _, p := range grid(2) {
			expectOn(t, p, a, a, p == a)
		}
	}
}

func TestOnOfAnyPlaces(t *testing.T) {
	list := append(grid(4), at(far, far), at(-far, -far), at(far, 2), at(0, -far))
	for _, p := range list {
		for _, a := range list {
			for _, b := range list {
				expectOn(t, p, a, b, isOn(p, a, b))
			}
		}
	}
	x := noise(2463534242)
	for range 5000 {
		// One that is in the line for sure, at times beyond its ends.
		a, step := x.place(far/8), x.place(1<<30)
		k, n := x.below(40)-20, x.below(20)
		b := at(a.X+n*step.X, a.Y+n*step.Y)
		p := at(a.X+k*step.X, a.Y+k*step.Y)
		expectOn(t, p, a, b, k >= 0 && k <= n || step == at(0, 0))
		expectOn(t, at(p.X, p.Y+1), a, b, isOn(at(p.X, p.Y+1), a, b))
	}
}

func TestMeet(t *testing.T) {
	for _, c := range []struct {
		a, b, c, d api.Point
		want       bool
	}{
		// Crossing in a place, and in none.
		{at(0, 0), at(2, 2), at(0, 2), at(2, 0), true},
		{at(0, 0), at(1, 1), at(0, 1), at(1, 0), true},
		{at(0, 0), at(5, 3), at(1, 3), at(2, 0), true},
		// Ends that touch.
		{at(0, 0), at(4, 0), at(4, 0), at(7, 5), true},
		{at(0, 0), at(4, 0), at(2, 0), at(7, 5), true},
		{at(0, 0), at(4, 0), at(2, -3), at(2, 0), true},
		// Lines that cross beyond an end.
		{at(0, 0), at(4, 0), at(5, -1), at(5, 1), false},
		{at(0, 0), at(4, 0), at(2, 1), at(2, 5), false},
		{at(0, 0), at(4, 0), at(5, 0), at(7, 5), false},
		{at(0, 0), at(2, 2), at(0, 3), at(1, 2), false},
		// In one line.
		{at(0, 0), at(4, 0), at(3, 0), at(9, 0), true},
		{at(0, 0), at(9, 0), at(3, 0), at(4, 0), true},
		{at(0, 0), at(4, 0), at(0, 0), at(4, 0), true},
		{at(0, 0), at(4, 0), at(4, 0), at(9, 0), true},
		{at(0, 0), at(4, 0), at(5, 0), at(9, 0), false},
		{at(0, 0), at(2, 2), at(3, 3), at(5, 5), false},
		{at(0, 0), at(3, 3), at(2, 2), at(5, 5), true},
		// Beside one another.
		{at(0, 0), at(4, 0), at(0, 1), at(4, 1), false},
		{at(0, 0), at(4, 4), at(1, 0), at(5, 4), false},
		// Ways of one place.
		{at(1, 1), at(1, 1), at(0, 0), at(2, 2), true},
		{at(1, 1), at(1, 1), at(0, 0), at(1, 2), false},
		{at(3, 3), at(3, 3), at(0, 0), at(2, 2), false},
		{at(1, 1), at(1, 1), at(1, 1), at(1, 1), true},
		{at(1, 1), at(1, 1), at(1, 2), at(1, 2), false},
		// The greatest ways.
		{at(-far, -far), at(far, far), at(-far, far), at(far, -far), true},
		{at(-far, -far), at(far, far), at(far-1, far), at(-far, far), false},
		{at(-far, -far), at(far, far-1), at(0, 0), at(-far, far), false},
		{at(-far, -far), at(far, far-1), at(0, -1), at(-far, far), true},
		{at(-far, -far), at(far, far), at(far, far), at(far, -far), true},
	} {
		expectMeet(t, c.a, c.b, c.c, c.d, c.want)
	}
}

func TestMeetOfAnyPlaces(t *testing.T) {
	list := grid(3)
	for _, a := range list {
		for _, b := range list {
			for _, c := range list {
				for _, d := range list {
					if want := doMeet(a, b, c, d); point.Meet(a, b, c, d) != want {
						t.Fatalf("Meet of %v, %v, %v, %v: %v", a, b, c, d, !want)
					}
				}
			}
		}
	}
	x := noise(362436069)
	for range 20000 {
		out := int64(1) << x.below(41)
		a, b, c, d := x.place(out), x.place(out), x.place(out), x.place(out)
		expectMeet(t, a, b, c, d, doMeet(a, b, c, d))
	}
}

// TestOnePlaceThatMayNotBe: with one nothing is told, even where the numbers themselves would tell it.
func TestOnePlaceThatMayNotBe(t *testing.T) {
	for _, wrong := range wrongPlaces() {
		for _, p := range []api.Point{at(0, 0), at(1, 0), at(far, far), wrong} {
			for _, q := range []api.Point{at(0, 0), at(0, 1), at(-far, far), wrong, p} {
				expectTurn(t, wrong, p, q, 0)
				expectTurn(t, p, wrong, q, 0)
				expectTurn(t, p, q, wrong, 0)
				expectOn(t, wrong, p, q, false)
				expectOn(t, p, wrong, q, false)
				expectOn(t, p, p, wrong, false)
				expectMeet(t, wrong, p, q, p, false)
				expectMeet(t, p, q, wrong, p, false)
				expectMeet(t, p, p, p, wrong, false)
			}
		}
	}
	expectOn(t, at(0, 0), at(-far-1, 0), at(far, 0), false)
	expectMeet(t, at(-far-1, 0), at(far, 0), at(0, -5), at(0, 5), false)
	expectMeet(t, at(-far, 0), at(far, 0), at(0, -5), at(0, far+1), false)
}

func TestSame(t *testing.T) {
	row := []api.Point{at(1, 2), at(3, 4), at(-5, 6)}
	for _, c := range []struct {
		a, b []api.Point
		want bool
	}{
		{row, row, true},
		{row, []api.Point{at(1, 2), at(3, 4), at(-5, 6)}, true},
		{nil, nil, true},
		{nil, []api.Point{}, true},
		{[]api.Point{}, make([]api.Point, 0, 4), true},
		{row[:0], nil, true},
		{row, nil, false},
		{row, row[:2], false},
		{row, row[1:], false},
		{row[:1], row[1:2], false},
		{row, []api.Point{at(3, 4), at(-5, 6), at(1, 2)}, false},
		{row, []api.Point{at(-5, 6), at(3, 4), at(1, 2)}, false},
		{row, []api.Point{at(1, 2), at(3, 4), at(-5, 7)}, false},
		{row, []api.Point{at(1, 2), at(3, 4), at(5, 6)}, false},
		{row, []api.Point{at(2, 1), at(4, 3), at(6, -5)}, false},
		{row, []api.Point{at(0, 2), at(3, 4), at(-5, 6)}, false},
		{[]api.Point{at(0, 0)}, nil, false},
		{[]api.Point{at(0, 0)}, []api.Point{at(0, 0), at(0, 0)}, false},
		// It is asked of their numbers alone, whether they may be places or not.
		{[]api.Point{at(math.MinInt64, far+1)}, []api.Point{at(math.MinInt64, far+1)}, true},
		{[]api.Point{at(math.MinInt64, 0)}, []api.Point{at(math.MaxInt64, 0)}, false},
	} {
		if point.Same(c.a, c.b) != c.want || point.Same(c.b, c.a) != c.want {
			t.Errorf("Same of %v and %v: %v", c.a, c.b, !c.want)
		}
	}
}

func TestSameLeavesTheRowsAsTheyAre(t *testing.T) {
	a, b := []api.Point{at(1, 2), at(3, 4), at(5, 6)}, []api.Point{at(1, 2), at(3, 4), at(7, 8)}
	point.Same(a[:2], b[:2])
	point.Same(a, b)
	if a[0] != at(1, 2) || a[1] != at(3, 4) || a[2] != at(5, 6) || b[0] != at(1, 2) || b[1] != at(3, 4) || b[2] != at(7, 8) {
		t.Error(a, b)
	}
}

func TestMove(t *testing.T) {
	for _, c := range []struct {
		p    api.Point
		x, y int64
		want api.Point
	}{
		{at(1, 2), 3, 4, at(4, 6)},
		{at(1, 2), -3, 0, at(-2, 2)},
		{at(1, 2), 0, -4, at(1, -2)},
		{at(0, 0), 0, 0, at(0, 0)},
		{at(0, 0), far, -far, at(far, -far)},
		{at(-far, far), 2 * far, -2 * far, at(far, -far)},
		{at(far, -far), -2 * far, 2 * far, at(-far, far)},
		{at(far, far), 0, 0, at(far, far)},
		{at(far-1, -far+1), 1, -1, at(far, -far)},
	} {
		expectMove(t, c.p, c.x, c.y, c.want, true)
	}
	// No number beyond what may be is told, nor one of a sum that isn't of 64 bits.
	for _, c := range []struct {
		p    api.Point
		x, y int64
	}{
		{at(far, 0), 1, 0},
		{at(0, far), 0, 1},
		{at(-far, 0), -1, 0},
		{at(0, -far), 0, -1},
		{at(-far, 0), 2*far + 1, 0},
		{at(0, far), 0, -2*far - 1},
		{at(0, 0), far + 1, 0},
		{at(0, 0), 5, -far - 1},
		{at(1, 1), math.MaxInt64, 0},
		{at(1, 1), 0, math.MaxInt64},
		{at(1, 1), math.MaxInt64, math.MaxInt64},
		{at(-1, -1), math.MinInt64, 0},
		{at(-1, -1), 0, math.MinInt64},
		{at(0, 0), math.MinInt64, 1},
		{at(0, 0), 1, math.MaxInt64},
		{at(-far, -far), math.MaxInt64, 0},
		{at(far, far), 0, math.MinInt64},
	} {
		expectMove(t, c.p, c.x, c.y, api.Point{}, false)
	}
}

func TestMoveOfAPlaceThatMayNotBe(t *testing.T) {
	for _, p := range wrongPlaces() {
		expectMove(t, p, 0, 0, api.Point{}, false)
		expectMove(t, p, 1, 1, api.Point{}, false)
		expectMove(t, p, math.MinInt64, math.MaxInt64, api.Point{}, false)
	}
	// Even where it would be one then.
	expectMove(t, at(far+1, 0), -1, 0, api.Point{}, false)
	expectMove(t, at(0, -far-1), 0, 1, api.Point{}, false)
	expectMove(t, at(math.MaxInt64, 3), -math.MaxInt64, 0, api.Point{}, false)
}

func TestMoveOfAnyPlaces(t *testing.T) {
	x := noise(88675123)
	number := func() int64 {
		n := []int64{x.below(5) - 2, far, -far, 2 * far, -2 * far, math.MaxInt64, math.MinInt64, x.below(4*far) - 2*far}[x.below(8)]
		return n + x.below(3)*(1-x.below(3))
	}
	mayBe := func(n *big.Int) bool { return n.CmpAbs(big.NewInt(far)) <= 0 }
	sum := func(n, m int64) *big.Int { return new(big.Int).Add(big.NewInt(n), big.NewInt(m)) }
	for range 50000 {
		p, dx, dy := at(number(), number()), number(), number()
		movedX, movedY := sum(p.X, dx), sum(p.Y, dy)
		if mayBe(big.NewInt(p.X)) && mayBe(big.NewInt(p.Y)) && mayBe(movedX) && mayBe(movedY) {
			expectMove(t, p, dx, dy, at(movedX.Int64(), movedY.Int64()), true)
		} else {
			expectMove(t, p, dx, dy, api.Point{}, false)
		}
	}
}

// P10.2

// triples calls do for many places by threes.
func triples(do func(a, b, c api.Point)) {
	list := append(grid(2), corners()...)
	for _, a := range list {
		for _, b := range list {
			for _, c := range list {
				do(a, b, c)
			}
		}
	}
	x := noise(123456789)
	for range 5000 {
		out := int64(1) << x.below(41)
		do(x.place(out), x.place(out), x.place(out))
	}
}

func TestATurnIsTheSameFromWhicheverOn(t *testing.T) {
	triples(func(a, b, c api.Point) {
		turn := point.Turn(a, b, c)
		expectTurn(t, b, c, a, turn)
		expectTurn(t, c, a, b, turn)
		expectTurn(t, c, b, a, -turn)
		expectTurn(t, b, a, c, -turn)
		expectTurn(t, a, c, b, -turn)
	})
}

func TestATurnStaysWhereAllAreMovedAlike(t *testing.T) {
	x := noise(987654321)
	many := 0
	triples(func(a, b, c api.Point) {
		by := []api.Point{at(1, -1), at(x.below(7)-3, x.below(7)-3), at(far/2, -far/3), x.place(far), x.place(2 * far)}
		for _, d := range by {
			movedA, okA := point.Move(a, d.X, d.Y)
			movedB, okB := point.Move(b, d.X, d.Y)
			movedC, okC := point.Move(c, d.X, d.Y)
			if okA && okB && okC {
				many++
				expectTurn(t, movedA, movedB, movedC, point.Turn(a, b, c))
			}
		}
	})
	if many < 10000 {
		t.Errorf("only %d could be moved", many)
	}
}
