package poly_test

import (
	"math"
	"math/big"
	"slices"
	"testing"

	"apogee/api"
	"apogee/point"
	"apogee/poly"
)

// How far out a corner may be, and a place.
const (
	edge = 1 << 30
	far  = 1 << 40
)

func at(x, y int64) api.Point { return api.Point{X: x, Y: y} }

// row is a list of places, written as their numbers.
func row(numbers ...int64) []api.Point {
	var list []api.Point
	for i := 0; i < len(numbers); i += 2 {
		list = append(list, at(numbers[i], numbers[i+1]))
	}
	return list
}

// areas are some that may be, round to the left and to the right, convex or not, with corners in the midst of a side.
var areas = [][]api.Point{
	row(0, 0, 4, 0, 4, 4, 0, 4),
	row(0, 4, 4, 4, 4, 0, 0, 0),
	row(0, 0, 1, 0, 0, 1),
	row(0, 0, 0, 1, 1, 0),
	row(-3, -5, 7, -2, 1, 6),
	row(0, 0, 2, 0, 4, 0, 4, 4, 0, 4),
	row(0, 0, 6, 0, 6, 6, 3, 1, 0, 6),
	row(0, 0, 6, 0, 6, 6, 4, 6, 4, 2, 2, 2, 2, 6, 0, 6),
	row(0, 0, 3, 1, 6, 0, 5, 3, 6, 6, 3, 5, 0, 6, 1, 3),
	row(0, 0, 1, 1, 2, 0, 3, 1, 4, 0, 4, 5, 0, 5),
	row(5, 5, 5, 0, 0, 0, 0, 3, 2, 3, 2, 1, 4, 1, 4, 5),
	row(-edge, -edge, edge, -edge, edge, edge, -edge, edge),
	row(-edge, edge, edge, edge, edge, -edge, -edge, -edge),
	row(-edge, -edge, edge, edge, edge-1, edge),
	row(edge, edge, edge-1, edge, edge, edge-1),
}

// cross is the area of both ways from a on, with its sign, as a number of any size.
func cross(a, b, c api.Point) *big.Int {
	left := new(big.Int).Mul(big.NewInt(b.X-a.X), big.NewInt(c.Y-a.Y))
	return left.Sub(left, new(big.Int).Mul(big.NewInt(b.Y-a.Y), big.NewInt(c.X-a.X)))
}

// dot is above 0, if b and c are in one half seen from a.
func dot(a, b, c api.Point) *big.Int {
	left := new(big.Int).Mul(big.NewInt(b.X-a.X), big.NewInt(c.X-a.X))
	return left.Add(left, new(big.Int).Mul(big.NewInt(b.Y-a.Y), big.NewInt(c.Y-a.Y)))
}

func isOn(p, a, b api.Point) bool {
	return cross(a, b, p).Sign() == 0 && dot(p, a, b).Sign() <= 0
}

// doMeet tells by where both lines cross: as a part of each way, from its beginning on.
func doMeet(a, b, c, d api.Point) bool {
	both := new(big.Int).Sub(cross(a, b, d), cross(a, b, c))
	if both.Sign() == 0 {
		return isOn(a, c, d) || isOn(b, c, d) || isOn(c, a, b) || isOn(d, a, b)
	}
	isPart := func(n *big.Int) bool {
		part := new(big.Rat).SetFrac(n, both)
		return part.Sign() >= 0 && part.Cmp(big.NewRat(1, 1)) <= 0
	}
	return isPart(cross(c, d, a)) && isPart(new(big.Int).Neg(cross(a, b, c)))
}

// isSimple asks each two corners, each two edges that aren't neighbours, and at each corner whether it goes back where it came from.
func isSimple(list []api.Point) bool {
	n := len(list)
	if n < 3 || n > 8 {
		return false
	}
	for i, a := range list {
		b, c := list[(i+1)%n], list[(i+2)%n]
		if slices.Contains(list[:i], a) || cross(b, a, c).Sign() == 0 && dot(b, a, c).Sign() > 0 {
			return false
		}
		for step := 2; step <= n-2; step++ {
			j := (i + step) % n
			if doMeet(a, b, list[j], list[(j+1)%n]) {
				return false
			}
		}
	}
	return true
}

// sideOf counts the edges that a way meets which goes from p far out, and so steeply that no corner of a small area can be on it.
func sideOf(list []api.Point, p api.Point) int {
	const steps = 1000
	away := at(p.X+1, p.Y+steps)
	side := -1
	for i, a := range list {
		b := list[(i+1)%len(list)]
		if isOn(p, a, b) {
			return 0
		}
		if doMeet(a, b, p, away) {
			side = -side
		}
	}
	return side
}

type noise uint64

func (x *noise) below(n int64) int64 {
	*x ^= *x << 13
	*x ^= *x >> 7
	*x ^= *x << 17
	return int64(*x>>1) % n
}

// places are so many, each number from 0 to most.
func (x *noise) places(many int, most int64) []api.Point {
	var list []api.Point
	for range many {
		list = append(list, at(x.below(most+1), x.below(most+1)))
	}
	return list
}

// area is any one with corners of numbers from 0 to most: corners are put in anywhere, as long as it stays one.
func (x *noise) area(corners int, most int64) []api.Point {
	for {
		list := x.places(3, most)
		for tries := 0; tries < 50 && len(list) < corners; tries++ {
			more := slices.Insert(slices.Clone(list), int(x.below(int64(len(list)))), x.places(1, most)...)
			if isSimple(more) {
				list = more
			}
		}
		if len(list) == corners && isSimple(list) {
			return list
		}
	}
}

// turned begins with another corner.
func turned(list []api.Point, by int) []api.Point {
	return slices.Concat(list[by:], list[:by])
}

// scaled is so many times as great, and moved.
func scaled(list []api.Point, by int64, to api.Point) []api.Point {
	var all []api.Point
	for _, p := range list {
		all = append(all, at(p.X*by+to.X, p.Y*by+to.Y))
	}
	return all
}

// grid are all places from lo to hi in both numbers.
func grid(lo, hi int64) []api.Point {
	var list []api.Point
	for x := lo; x <= hi; x++ {
		for y := lo; y <= hi; y++ {
			list = append(list, at(x, y))
		}
	}
	return list
}

func expectArea(t *testing.T, list []api.Point, right, simple bool) {
	t.Helper()
	if poly.Right(list) != right || poly.Simple(list) != simple {
		t.Fatalf("%v: Right %v, Simple %v; want %v, %v", list, poly.Right(list), poly.Simple(list), right, simple)
	}
}

func expectSide(t *testing.T, list []api.Point, p api.Point, want int) {
	t.Helper()
	if got := poly.Side(list, p); got != want {
		t.Fatalf("Side of %v, in %v: %d, want %d", p, list, got, want)
	}
}

// expectNoArea holds what all calls answer of what may be no area.
func expectNoArea(t *testing.T, list []api.Point) {
	t.Helper()
	if poly.Right(list) {
		t.Fatalf("%v may be an area", list)
	}
	for _, p := range append(slices.Clone(list[:min(9, len(list))]), at(1, 1), at(0, 0), at(-99, 0)) {
		expectSide(t, list, p, -1)
	}
	if poly.Left(list) {
		t.Fatalf("Left of %v", list)
	}
	if b, ok := poly.Bounds(list); ok || b != (api.Box{}) {
		t.Fatalf("Bounds of %v: %v, %v", list, b, ok)
	}
	for _, by := range []api.Point{at(0, 0), at(1, -1), at(-1, 0)} {
		expectNotMoved(t, list, by.X, by.Y)
	}
}

func expectNotMoved(t *testing.T, list []api.Point, x, y int64) {
	t.Helper()
	if got, ok := poly.Move(list, x, y); ok || len(got) > 0 {
		t.Fatalf("Move of %v by %d, %d: %v, %v", list, x, y, got, ok)
	}
}

// P11.1

func TestAreas(t *testing.T) {
	for _, list := range areas {
		for by := range list {
			expectArea(t, turned(list, by), true, true)
			expectArea(t, poly.Back(turned(list, by)), true, true)
		}
	}
}

func TestWhatIsNoArea(t *testing.T) {
	nine := row(0, 0, 9, 0, 9, 9, 8, 9, 7, 2, 6, 9, 5, 2, 4, 9, 0, 9)
	for _, list := range [][]api.Point{
		nil,
		{},
		row(0, 0),
		row(0, 0, 4, 4),
		nine,
		append(nine, at(0, 5)),
		make([]api.Point, 3),
		make([]api.Point, 8),
		// Corners that are one: beside one another, further off, first and last.
		row(0, 0, 4, 0, 4, 0, 4, 4),
		row(0, 0, 4, 0, 4, 4, 0, 0),
		row(0, 0, 4, 0, 4, 4, 2, 2, 0, 4, 2, 2),
		row(0, 0, 4, 0, 4, 4, 4, 0, 0, 4),
		// All in one line.
		row(0, 0, 1, 0, 2, 0),
		row(0, 0, 2, 0, 1, 0),
		row(1, 1, 0, 0, 2, 2),
		row(0, 0, 4, 4, 8, 8, 2, 2),
		// Edges that cross.
		row(0, 0, 4, 4, 4, 0, 0, 4),
		row(0, 0, 4, 0, 0, 4, 4, 4),
		row(0, 0, 6, 0, 6, 6, 3, -1, 0, 6),
		// A corner on another edge.
		row(0, 0, 6, 0, 6, 6, 3, 0, 0, 6),
		row(0, 0, 6, 0, 6, 6, 0, 3, 6, 9, 0, 9),
		// Edges that go back where they came from.
		row(0, 0, 4, 0, 2, 0, 2, 4),
		row(0, 0, 4, 0, 4, 4, 4, 2, 0, 4),
		row(2, 0, 4, 0, 4, 4, 0, 0, 3, 0),
		// Edges that lie on one another.
		row(0, 0, 6, 0, 6, 2, 4, 2, 4, 0, 2, 0, 2, 2, 0, 2),
		// The least that is too much, over the greatest ways.
		row(-edge, -edge, edge, edge, 0, 0),
		row(-edge, -edge, edge, edge, edge, edge-1, 0, 0),
	} {
		expectArea(t, list, false, false)
		expectNoArea(t, list)
		for by := range list {
			expectArea(t, turned(list, by), false, false)
			expectArea(t, poly.Back(turned(list, by)), false, false)
		}
	}
	// One corner less of nine, and eight are an area.
	expectArea(t, nine[:8], true, true)
}

func TestHowFarCornersMayBe(t *testing.T) {
	for _, n := range []int64{edge, -edge} {
		expectArea(t, row(0, 1, n, 0, 1, 5), true, true)
		expectArea(t, row(1, 0, 0, n, 5, 1), true, true)
	}
	// These are simple, but too far out for an area.
	for _, n := range []int64{edge + 1, -edge - 1, 1 << 31, far - 1, far, -far} {
		for by := range 3 {
			for _, list := range [][]api.Point{turned(row(0, 1, n, 0, 1, 5), by), turned(row(1, 0, 0, n, 5, 1), by)} {
				expectArea(t, list, false, true)
				expectNoArea(t, list)
			}
		}
	}
	// These aren't even places.
	for _, n := range []int64{far + 1, -far - 1, 1 << 62, math.MaxInt64, math.MinInt64, math.MinInt64 + 1} {
		for by := range 3 {
			for _, list := range [][]api.Point{turned(row(0, 1, n, 0, 1, 5), by), turned(row(1, 0, 0, n, 5, 1), by)} {
				expectArea(t, list, false, false)
				expectNoArea(t, list)
			}
		}
	}
	expectArea(t, row(-far, -far, far, far, far-1, far), false, true)
	expectArea(t, row(-far, -far, far, far, 0, 0), false, false)
}

func TestAllTrianglesAndFours(t *testing.T) {
	list := grid(0, 2)
	for _, a := range list {
		for _, b := range list {
			for _, c := range list {
				three := []api.Point{a, b, c}
				expectArea(t, three, isSimple(three), isSimple(three))
				for _, d := range list {
					four := []api.Point{a, b, c, d}
					if want := isSimple(four); poly.Simple(four) != want {
						t.Fatalf("Simple of %v: %v", four, !want)
					}
				}
			}
		}
	}
}

func TestAnyCorners(t *testing.T) {
	x := noise(88172645463325252)
	simple := 0
	for range 20000 {
		list := x.places(int(x.below(10)), 2+x.below(9))
		want := isSimple(list)
		if want {
			simple++
		}
		expectArea(t, list, want, want)
	}
	if simple < 2000 {
		t.Errorf("only %d were simple", simple)
	}
	// One corner that is moved a little makes some of them none.
	none := 0
	for range 4000 {
		list := x.area(3+int(x.below(6)), 6)
		i := x.below(int64(len(list)))
		list[i] = at(list[i].X+x.below(3)-1, list[i].Y+x.below(3)-1)
		want := isSimple(list)
		if !want {
			none++
		}
		expectArea(t, list, want, want)
	}
	if none < 500 {
		t.Errorf("only %d were none", none)
	}
}

func TestSideOfASquare(t *testing.T) {
	square := row(0, 0, 4, 0, 4, 4, 0, 4)
	expectSide(t, square, at(2, 2), 1)
	expectSide(t, square, at(4, 1), 0)
	expectSide(t, square, at(5, 1), -1)
	for _, p := range grid(-2, 6) {
		out := max(-p.X, p.X-4, -p.Y, p.Y-4)
		expectSide(t, square, p, []int{1, 0, -1}[1+max(-1, min(1, out))])
	}
}

// TestSideBesideCorners: ways to the right of these places meet corners, and edges along them.
func TestSideBesideCorners(t *testing.T) {
	notched := row(0, 0, 6, 0, 6, 6, 4, 6, 4, 2, 2, 2, 2, 6, 0, 6)
	for p, want := range map[api.Point]int{
		at(1, 2): 1, at(5, 2): 1, at(3, 2): 0, at(-1, 2): -1, at(7, 2): -1, at(3, 4): -1, at(3, 6): -1, at(1, 6): 0, at(-1, 6): -1, at(-1, 0): -1, at(1, 5): 1, at(5, 5): 1, at(2, 1): 1, at(4, 2): 0, at(2, 3): 0,
	} {
		expectSide(t, notched, p, want)
	}
	star := row(0, 3, 3, 0, 6, 3, 3, 6)
	for p, want := range map[api.Point]int{at(1, 3): 1, at(3, 3): 1, at(-1, 3): -1, at(7, 3): -1, at(0, 0): -1, at(0, 6): -1, at(-3, 6): -1, at(-3, 0): -1, at(1, 2): 0, at(1, 1): -1, at(2, 2): 1} {
		expectSide(t, star, p, want)
	}
	spiky := row(0, 0, 1, 1, 2, 0, 3, 1, 4, 0, 4, 5, 0, 5)
	for p, want := range map[api.Point]int{at(-1, 0): -1, at(1, 0): -1, at(3, 0): -1, at(5, 0): -1, at(-1, 1): -1, at(2, 1): 1, at(1, 1): 0, at(2, 2): 1, at(5, 1): -1} {
		expectSide(t, spiky, p, want)
	}
}

func TestSideOfAnyAreas(t *testing.T) {
	x := noise(2463534242)
	list := append(slices.Clone(areas[:11]), row(0, 0, 8, 1, 1, 8))
	for range 300 {
		list = append(list, x.area(3+int(x.below(6)), 7))
	}
	for _, area := range list {
		for _, p := range grid(-6, 9) {
			expectSide(t, area, p, sideOf(area, p))
		}
	}
}

func TestSideOfTheGreatestAreas(t *testing.T) {
	all := row(-edge, -edge, edge, -edge, edge, edge, -edge, edge)
	for p, want := range map[api.Point]int{
		at(0, 0): 1, at(edge-1, edge-1): 1, at(-edge+1, 0): 1, at(edge, 0): 0, at(0, -edge): 0, at(edge, edge): 0, at(-edge, -edge): 0,
		at(edge+1, 0): -1, at(0, edge+1): -1, at(-edge-1, edge): -1, at(far, far): -1, at(-far, 0): -1, at(0, -far): -1,
	} {
		expectSide(t, all, p, want)
	}
	// A slit that is one wide at its end.
	slit := row(-edge, -edge, edge, edge-1, edge, edge)
	for p, want := range map[api.Point]int{at(-edge, -edge): 0, at(edge, edge): 0, at(edge, edge-1): 0, at(0, 0): 0, at(1, 0): -1, at(0, 1): -1, at(0, -1): -1, at(edge-1, edge-1): 0, at(edge-1, edge-2): -1} {
		expectSide(t, slit, p, want)
	}
	wedge := row(-edge, -edge, edge, edge-2, edge, edge)
	for p, want := range map[api.Point]int{at(edge, edge-1): 0, at(0, 0): 0, at(1, 0): 1, at(1, -1): -1, at(0, -1): 0, at(edge-1, edge-2): 1, at(edge-2, edge-3): 1, at(3, 2): 1, at(-3, -4): -1, at(-3, -3): 0, at(1, 2): -1} {
		expectSide(t, wedge, p, want)
	}
}

func TestSideOfPlacesThatMayNotBe(t *testing.T) {
	for _, area := range areas {
		for _, n := range []int64{far + 1, -far - 1, 1 << 62, math.MaxInt64, math.MinInt64} {
			for _, p := range []api.Point{at(n, 0), at(0, n), at(n, n), at(1, n), at(n, 1)} {
				expectSide(t, area, p, -1)
			}
		}
	}
}

func TestLeft(t *testing.T) {
	for _, c := range []struct {
		list []api.Point
		want bool
	}{
		{row(0, 0, 1, 0, 0, 1), true},
		{row(0, 0, 0, 1, 1, 0), false},
		{row(0, 0, 4, 0, 4, 4, 0, 4), true},
		{row(0, 4, 4, 4, 4, 0, 0, 0), false},
		{row(0, 0, 6, 0, 6, 6, 3, 1, 0, 6), true},
		{row(0, 0, 6, 0, 6, 6, 4, 6, 4, 2, 2, 2, 2, 6, 0, 6), true},
		// Its first corners turn to the right, but all of it goes round to the left.
		{row(3, 1, 0, 6, 0, 0, 6, 0, 6, 6), true},
		{row(6, 6, 3, 1, 0, 6, 0, 0, 6, 0), true},
		{row(0, 6, 3, 1, 6, 6, 6, 0, 0, 0), false},
		{row(5, 5, 6, 5, 5, 6), true},
		{row(-5, -5, -5, -4, -4, -5), false},
		// The greatest ones, and the least ones furthest out.
		{row(-edge, -edge, edge, -edge, edge, edge, -edge, edge), true},
		{row(-edge, -edge, -edge, edge, edge, edge, edge, -edge), false},
		{row(-edge, -edge, edge, edge, edge-1, edge), true},
		{row(-edge, -edge, edge-1, edge, edge, edge), false},
		{row(edge, edge, edge-1, edge, edge, edge-1), true},
		{row(-edge, -edge, -edge, -edge+1, -edge+1, -edge), false},
		{row(-edge, -edge, edge, -edge, edge, edge-1, -edge, edge), true},
		{row(-edge, edge, edge, edge, edge, -edge+1, -edge, -edge), false},
	} {
		for by := range c.list {
			if poly.Left(turned(c.list, by)) != c.want {
				t.Errorf("Left of %v: %v", turned(c.list, by), !c.want)
			}
			if poly.Left(poly.Back(turned(c.list, by))) == c.want {
				t.Errorf("Left of %v, round the other way: %v", turned(c.list, by), c.want)
			}
		}
	}
}

// TestLeftOfAnyAreas: it is told by the turn at the lowest one of the corners, of these the one furthest to the left, where no area goes in.
func TestLeftOfAnyAreas(t *testing.T) {
	x := noise(362436069)
	for range 3000 {
		list := x.area(3+int(x.below(6)), 9)
		n, first := len(list), 0
		for i, p := range list {
			if p.Y < list[first].Y || p.Y == list[first].Y && p.X < list[first].X {
				first = i
			}
		}
		want := cross(list[(first+n-1)%n], list[first], list[(first+1)%n]).Sign() > 0
		if poly.Left(list) != want {
			t.Fatalf("Left of %v: %v", list, !want)
		}
	}
}

func TestBack(t *testing.T) {
	for _, c := range []struct{ list, want []api.Point }{
		{nil, nil},
		{row(), row()},
		{row(1, 2), row(1, 2)},
		{row(1, 2, 3, 4), row(1, 2, 3, 4)},
		{row(1, 2, 3, 4, 5, 6), row(1, 2, 5, 6, 3, 4)},
		{row(0, 0, 4, 0, 4, 4, 0, 4), row(0, 0, 0, 4, 4, 4, 4, 0)},
		{row(1, 1, 2, 2, 3, 3, 4, 4, 5, 5), row(1, 1, 5, 5, 4, 4, 3, 3, 2, 2)},
		// It asks for no area.
		{row(7, 7, 7, 7, math.MaxInt64, math.MinInt64), row(7, 7, math.MaxInt64, math.MinInt64, 7, 7)},
		{row(1, 0, 2, 0, 3, 0, 4, 0, 5, 0, 6, 0, 7, 0, 8, 0, 9, 0), row(1, 0, 9, 0, 8, 0, 7, 0, 6, 0, 5, 0, 4, 0, 3, 0, 2, 0)},
	} {
		if got := poly.Back(c.list); !slices.Equal(got, c.want) {
			t.Errorf("Back of %v: %v, want %v", c.list, got, c.want)
		}
	}
}

func TestBounds(t *testing.T) {
	for _, c := range []struct {
		list   []api.Point
		lo, hi api.Point
	}{
		{row(0, 0, 4, 0, 4, 4, 0, 4), at(0, 0), at(4, 4)},
		{row(-3, -5, 7, -2, 1, 6), at(-3, -5), at(7, 6)},
		{row(3, 9, 5, 1, 8, 2, 7, 4), at(3, 1), at(8, 9)},
		{row(-7, -9, -2, -8, -4, -1), at(-7, -9), at(-2, -1)},
		{row(5, 5, 6, 5, 5, 6), at(5, 5), at(6, 6)},
		{row(-edge, -edge, edge, edge, edge-1, edge), at(-edge, -edge), at(edge, edge)},
		{row(edge, edge, edge-1, edge, edge, edge-1), at(edge-1, edge-1), at(edge, edge)},
	} {
		for by := range c.list {
			if got, ok := poly.Bounds(turned(c.list, by)); got != (api.Box{Lo: c.lo, Hi: c.hi}) || !ok {
				t.Errorf("Bounds of %v: %v, %v", turned(c.list, by), got, ok)
			}
		}
	}
}

func TestMove(t *testing.T) {
	square := row(0, 0, 4, 0, 4, 4, 0, 4)
	for _, c := range []struct {
		x, y int64
		want []api.Point
	}{
		{0, 0, square},
		{1, -2, row(1, -2, 5, -2, 5, 2, 1, 2)},
		{edge - 4, edge - 4, row(edge-4, edge-4, edge, edge-4, edge, edge, edge-4, edge)},
		{-edge, -edge, row(-edge, -edge, -edge+4, -edge, -edge+4, -edge+4, -edge, -edge+4)},
		{-edge, edge - 4, row(-edge, edge-4, -edge+4, edge-4, -edge+4, edge, -edge, edge)},
	} {
		if got, ok := poly.Move(square, c.x, c.y); !slices.Equal(got, c.want) || !ok {
			t.Errorf("Move by %d, %d: %v, %v", c.x, c.y, got, ok)
		}
	}
	// Beyond what corners may be, what places may be, and what numbers may be.
	for _, n := range []int64{edge - 3, -edge - 1, edge, far, -far, far - 4, far - 3, 1 << 50, math.MaxInt64, math.MaxInt64 - 3, math.MinInt64} {
		expectNotMoved(t, square, n, 0)
		expectNotMoved(t, square, 0, n)
		expectNotMoved(t, square, n, n)
	}
	// What was none isn't moved to where it would be one.
	expectNotMoved(t, row(edge+1, 0, edge, 0, edge, 1), -1, 0)
	expectNotMoved(t, row(0, 0, 4, 4, 4, 0, 0, 4), 1, 1)
}

func TestWhatIsHandedInStays(t *testing.T) {
	for _, area := range areas {
		room := append(slices.Clone(area), at(77, 77), at(78, 78), at(79, 79))
		was := slices.Clone(room)
		list := room[:len(area)]
		back := poly.Back(list)
		moved, _ := poly.Move(list, 0, 0)
		poly.Right(list)
		poly.Simple(list)
		poly.Side(list, at(1, 1))
		poly.Left(list)
		poly.Bounds(list)
		for _, answer := range [][]api.Point{back, moved} {
			for i := range answer {
				answer[i] = at(-1, -1)
			}
			_ = append(answer, at(5, 5), at(6, 6))
		}
		if !slices.Equal(room, was) {
			t.Fatalf("%v became %v", was, room)
		}
	}
}

// P11.2

func TestTheSameFromWhicheverCornerOn(t *testing.T) {
	x := noise(123456789)
	for range 150 {
		area := x.area(3+int(x.below(6)), 6)
		for _, p := range grid(-1, 7) {
			want := poly.Side(area, p)
			for by := range area {
				expectSide(t, turned(area, by), p, want)
				expectSide(t, poly.Back(turned(area, by)), p, want)
			}
		}
	}
}

func TestASideStaysWhereAllIsMovedAlike(t *testing.T) {
	x := noise(987654321)
	for range 200 {
		area := x.area(3+int(x.below(6)), 6)
		by := []api.Point{at(x.below(9)-4, x.below(9)-4), at(edge-6, -edge), at(-edge, edge-6), at(x.below(edge)-edge/2, x.below(edge)-edge/2)}[x.below(4)]
		moved, ok := poly.Move(area, by.X, by.Y)
		if !ok {
			t.Fatalf("%v isn't moved by %v", area, by)
		}
		for _, p := range grid(-1, 7) {
			q, _ := point.Move(p, by.X, by.Y)
			expectSide(t, moved, q, poly.Side(area, p))
		}
	}
}

// TestASideStaysWhereAllIsGreater: sides of great areas are those of the small ones that they are like.
func TestASideStaysWhereAllIsGreater(t *testing.T) {
	x := noise(5551212)
	const by = edge / 6
	for range 200 {
		area := x.area(3+int(x.below(6)), 12)
		great := scaled(area, by, at(-6*by, -6*by))
		expectArea(t, great, true, true)
		if poly.Left(great) != poly.Left(area) {
			t.Fatalf("Left of %v: %v", great, !poly.Left(area))
		}
		for _, p := range grid(-1, 13) {
			expectSide(t, great, scaled([]api.Point{p}, by, at(-6*by, -6*by))[0], poly.Side(area, p))
		}
	}
}

func TestOutsideTheBoundsIsOutside(t *testing.T) {
	x := noise(192837465)
	for range 200 {
		area := x.area(3+int(x.below(6)), 9)
		b, ok := poly.Bounds(area)
		if !ok {
			t.Fatal(area)
		}
		for _, p := range grid(-2, 11) {
			if p.X < b.Lo.X || p.X > b.Hi.X || p.Y < b.Lo.Y || p.Y > b.Hi.Y {
				expectSide(t, area, p, -1)
			}
		}
	}
}

func TestOneSideWhereNoEdgeIsMet(t *testing.T) {
	x := noise(1029384756)
	many := 0
	for range 20000 {
		area := x.area(3+int(x.below(4)), 9)
		both := x.places(2, 9)
		isMet := false
		for i, a := range area {
			isMet = isMet || doMeet(a, area[(i+1)%len(area)], both[0], both[1])
		}
		if !isMet {
			many++
			expectSide(t, area, both[0], poly.Side(area, both[1]))
		}
	}
	if many < 2000 {
		t.Errorf("only %d met no edge", many)
	}
}
