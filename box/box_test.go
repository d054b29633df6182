package box_test

import (
	"math"
	"math/big"
	"slices"
	"testing"

	"apogee/api"
	"apogee/box"
	"apogee/poly"
)

// How far out a place may be, and a corner of an area.
const (
	far  = 1 << 40
	edge = 1 << 30
)

func at(x, y int64) api.Point { return api.Point{X: x, Y: y} }

// from is the box of these numbers.
func from(loX, loY, hiX, hiY int64) api.Box { return api.Box{Lo: at(loX, loY), Hi: at(hiX, hiY)} }

// row is a list of places, written as their numbers.
func row(numbers ...int64) []api.Point {
	var list []api.Point
	for i := 0; i < len(numbers); i += 2 {
		list = append(list, at(numbers[i], numbers[i+1]))
	}
	return list
}

var none api.Box

// wrongs are numbers that no place has.
var wrongs = []int64{far + 1, -far - 1, 1 << 41, -1 << 41, 1 << 62, math.MinInt64 + 1, math.MinInt64, math.MaxInt64}

// wrongPlaces may not be.
func wrongPlaces() []api.Point {
	var list []api.Point
	for _, n := range wrongs {
		for _, other := range []int64{0, 1, far, -far, n} {
			list = append(list, at(n, other), at(other, n))
		}
	}
	return list
}

// rights are boxes that may be.
var rights = []api.Box{
	from(0, 0, 0, 0), from(0, 0, 1, 1), from(-3, -2, 5, 7), from(4, 4, 4, 9), from(4, 4, 9, 4),
	from(-far, -far, far, far), from(far, far, far, far), from(-far, -far, -far, -far), from(-far, 0, far, 0), from(0, -far, 0, far), from(far-1, -far, far, -far+1),
}

// wrongBoxes may not be: they lie the wrong way round, or have places that may not be.
func wrongBoxes() []api.Box {
	list := []api.Box{
		from(1, 0, 0, 0), from(0, 1, 0, 0), from(1, 0, 0, 5), from(0, 1, 5, 0), from(5, 5, 0, 0), from(far, 0, -far, 0), from(0, far, 0, -far),
		from(-far-1, 0, 0, 0), from(0, -far-1, 0, 0), from(0, 0, far+1, 0), from(0, 0, 0, far+1), from(math.MinInt64, math.MinInt64, math.MaxInt64, math.MaxInt64),
	}
	for _, p := range wrongPlaces() {
		list = append(list, api.Box{Lo: p}, api.Box{Hi: p}, api.Box{Lo: p, Hi: p}, api.Box{Lo: at(-far, -far), Hi: p}, api.Box{Lo: p, Hi: at(far, far)})
	}
	return list
}

// boxes are all with numbers from lo to hi.
func boxes(lo, hi int64) []api.Box {
	var list []api.Box
	for loX := lo; loX <= hi; loX++ {
		for loY := lo; loY <= hi; loY++ {
			for hiX := loX; hiX <= hi; hiX++ {
				for hiY := loY; hiY <= hi; hiY++ {
					list = append(list, from(loX, loY, hiX, hiY))
				}
			}
		}
	}
	return list
}

// grid are all places from lo to hi in both numbers.
func grid(lo, hi int64) []api.Point {
	var list []api.Point
	for x := lo; x <= hi; x++ {
		for y := lo; y <= hi; y++ {
			list = append(list, at(x, y))
		}
	}
	return list
}

type noise uint64

func (x *noise) below(n int64) int64 {
	*x ^= *x << 13
	*x ^= *x >> 7
	*x ^= *x << 17
	return int64(*x>>1) % n
}

// place is any one that is at most so far out.
func (x *noise) place(out int64) api.Point {
	return at(x.below(2*out+1)-out, x.below(2*out+1)-out)
}

// box is any one that is at most so far out, at times a narrow one.
func (x *noise) box(out int64) api.Box {
	p, q := x.place(out), x.place(out)
	if x.below(3) == 0 {
		q = at(min(out, p.X+x.below(2)), min(out, p.Y+x.below(2)))
	}
	return from(min(p.X, q.X), min(p.Y, q.Y), max(p.X, q.X), max(p.Y, q.Y))
}

// area is any one with corners of numbers from 0 to most.
func (x *noise) area(most int64) []api.Point {
	for {
		var list []api.Point
		for range 3 + x.below(4) {
			list = append(list, at(x.below(most+1), x.below(most+1)))
		}
		if poly.Right(list) {
			return list
		}
	}
}

// doesMeet cuts the way down to the part of it that is between the sides, first those in X, then those in Y, and asks whether a part is left.
func doesMeet(b api.Box, p, q api.Point) bool {
	first, last := big.NewRat(0, 1), big.NewRat(1, 1)
	cut := func(from, to, lo, hi int64) bool {
		if from == to {
			return lo <= from && from <= hi
		}
		ends := []*big.Rat{big.NewRat(lo-from, to-from), big.NewRat(hi-from, to-from)}
		slices.SortFunc(ends, (*big.Rat).Cmp)
		if ends[0].Cmp(first) > 0 {
			first = ends[0]
		}
		if ends[1].Cmp(last) < 0 {
			last = ends[1]
		}
		return first.Cmp(last) <= 0
	}
	return cut(p.X, q.X, b.Lo.X, b.Hi.X) && cut(p.Y, q.Y, b.Lo.Y, b.Hi.Y)
}

// relation is what Relate should tell of what may be.
func relation(b api.Box, area []api.Point) int {
	for i, p := range area {
		if doesMeet(b, p, area[(i+1)%len(area)]) {
			return 0
		}
	}
	return poly.Side(area, b.Lo)
}

func expectMeets(t *testing.T, b api.Box, p, q api.Point, want bool) {
	t.Helper()
	if box.Meets(b, p, q) != want || box.Meets(b, q, p) != want {
		t.Fatalf("Meets of %v, from %v to %v: %v, and back %v; want %v", b, p, q, box.Meets(b, p, q), box.Meets(b, q, p), want)
	}
}

func expectRelate(t *testing.T, b api.Box, area []api.Point, want int) {
	t.Helper()
	if got := box.Relate(b, area); got != want {
		t.Fatalf("Relate of %v to %v: %d, want %d", b, area, got, want)
	}
}

func expectHas(t *testing.T, b api.Box, p api.Point, want bool) {
	t.Helper()
	if box.Has(b, p) != want {
		t.Fatalf("Has of %v, %v: %v", b, p, !want)
	}
}

func expectIn(t *testing.T, a, b api.Box, want bool) {
	t.Helper()
	if box.In(a, b) != want {
		t.Fatalf("In of %v, %v: %v", a, b, !want)
	}
}

func expectJoin(t *testing.T, a, b, want api.Box) {
	t.Helper()
	if box.Join(a, b) != want || box.Join(b, a) != want {
		t.Fatalf("Join of %v and %v: %v, and %v; want %v", a, b, box.Join(a, b), box.Join(b, a), want)
	}
}

func expectGrow(t *testing.T, b api.Box, n int64, want api.Box, ok bool) {
	t.Helper()
	if got, gotOK := box.Grow(b, n); got != want || gotOK != ok {
		t.Fatalf("Grow of %v by %d: %v, %v; want %v, %v", b, n, got, gotOK, want, ok)
	}
}

// P12.1

func TestRight(t *testing.T) {
	for _, b := range append(boxes(-1, 2), rights...) {
		if !box.Right(b) {
			t.Errorf("%v may not be", b)
		}
	}
	for _, b := range wrongBoxes() {
		if box.Right(b) {
			t.Errorf("%v may be", b)
		}
	}
}

func TestOf(t *testing.T) {
	for _, c := range []struct {
		p    api.Point
		n    int64
		want api.Box
	}{
		{at(3, 5), 0, from(3, 5, 3, 5)},
		{at(3, 5), 1, from(2, 4, 4, 6)},
		{at(3, -5), 7, from(-4, -12, 10, 2)},
		{at(3, 5), -1, from(3, 5, 3, 5)},
		{at(3, 5), -far, from(3, 5, 3, 5)},
		{at(3, 5), math.MinInt64, from(3, 5, 3, 5)},
		{at(0, 0), far, from(-far, -far, far, far)},
		{at(0, 0), far - 1, from(-far+1, -far+1, far-1, far-1)},
		{at(0, 0), far + 1, from(-far, -far, far, far)},
		{at(3, -5), far, from(3-far, -far, far, far-5)},
		{at(far, -far), 0, from(far, -far, far, -far)},
		{at(far, -far), 1, from(far-1, -far, far, -far+1)},
		{at(far, -far), 2*far - 1, from(-far+1, -far, far, far-1)},
		{at(far, -far), 2 * far, from(-far, -far, far, far)},
		{at(-far, far), 2*far - 1, from(-far, -far+1, far-1, far)},
		{at(far, far), math.MaxInt64, from(-far, -far, far, far)},
		{at(-far, -far), math.MaxInt64, from(-far, -far, far, far)},
		{at(-far, 7), math.MaxInt64 - 1, from(-far, -far, far, far)},
		{at(0, 0), 1 << 62, from(-far, -far, far, far)},
	} {
		if got := box.Of(c.p, c.n); got != c.want {
			t.Errorf("Of %v, %d: %v, want %v", c.p, c.n, got, c.want)
		}
	}
	for _, p := range wrongPlaces() {
		for _, n := range []int64{0, 1, -1, far, 2 * far, math.MaxInt64, math.MinInt64} {
			if got := box.Of(p, n); got != none {
				t.Errorf("Of %v, %d: %v", p, n, got)
			}
		}
	}
}

func TestHas(t *testing.T) {
	for _, b := range boxes(0, 3) {
		for _, p := range grid(-1, 4) {
			expectHas(t, b, p, b.Lo.X <= p.X && p.X <= b.Hi.X && b.Lo.Y <= p.Y && p.Y <= b.Hi.Y)
		}
	}
	all := from(-far, -far, far, far)
	for _, p := range []api.Point{at(far, far), at(-far, -far), at(0, far), at(7, 7)} {
		expectHas(t, all, p, true)
	}
	for _, p := range wrongPlaces() {
		expectHas(t, all, p, false)
		expectHas(t, api.Box{Lo: p, Hi: p}, p, false)
		expectHas(t, from(math.MinInt64, math.MinInt64, math.MaxInt64, math.MaxInt64), p, false)
	}
	for _, b := range wrongBoxes() {
		for _, p := range []api.Point{at(0, 0), at(3, 3), b.Lo, b.Hi, at(-far, -far)} {
			expectHas(t, b, p, false)
		}
	}
}

func TestIn(t *testing.T) {
	list := boxes(0, 3)
	for _, a := range list {
		for _, b := range list {
			want := b.Lo.X <= a.Lo.X && a.Hi.X <= b.Hi.X && b.Lo.Y <= a.Lo.Y && a.Hi.Y <= b.Hi.Y
			expectIn(t, a, b, want)
		}
	}
	all := from(-far, -far, far, far)
	for _, a := range rights {
		expectIn(t, a, all, true)
		expectIn(t, a, a, true)
		expectIn(t, all, a, a == all)
	}
	for _, wrong := range wrongBoxes() {
		expectIn(t, wrong, all, false)
		expectIn(t, wrong, wrong, false)
		for _, b := range rights {
			expectIn(t, b, wrong, false)
			expectIn(t, wrong, b, false)
		}
	}
}

func TestJoin(t *testing.T) {
	list := append(boxes(0, 2), rights...)
	for _, a := range list {
		for _, b := range list {
			want := from(min(a.Lo.X, b.Lo.X), min(a.Lo.Y, b.Lo.Y), max(a.Hi.X, b.Hi.X), max(a.Hi.Y, b.Hi.Y))
			expectJoin(t, a, b, want)
		}
	}
	for _, wrong := range wrongBoxes() {
		for _, b := range rights {
			expectJoin(t, wrong, b, b)
		}
		expectJoin(t, wrong, wrong, none)
		expectJoin(t, wrong, from(2, 2, 1, 1), none)
	}
}

func TestGrow(t *testing.T) {
	expectGrow(t, from(1, 2, 3, 4), 0, from(1, 2, 3, 4), true)
	expectGrow(t, from(1, 2, 3, 4), 5, from(-4, -3, 8, 9), true)
	expectGrow(t, from(0, 0, 0, 0), far, from(-far, -far, far, far), true)
	expectGrow(t, from(-far, -far, far, far), 0, from(-far, -far, far, far), true)
	expectGrow(t, from(-far+3, 0, 0, 0), 3, from(-far, -3, 3, 3), true)
	for _, c := range []struct {
		b api.Box
		n int64
	}{
		{from(-far+3, 0, 0, 0), 4},
		{from(0, -far+3, 0, 0), 4},
		{from(0, 0, far-3, 0), 4},
		{from(0, 0, 0, far-3), 4},
		{from(0, 0, 0, 0), far + 1},
		{from(0, 0, 0, 0), math.MaxInt64},
		{from(-far, -far, far, far), 1},
		{from(-far, -far, far, far), math.MaxInt64},
		{from(far, far, far, far), math.MaxInt64},
		{from(1, 2, 3, 4), -1},
		{from(-5, -5, 5, 5), -1},
		{from(1, 2, 3, 4), -far},
		{from(1, 2, 3, 4), math.MinInt64},
		{from(0, 0, 0, 0), math.MinInt64 + 1},
	} {
		expectGrow(t, c.b, c.n, none, false)
	}
	for _, wrong := range wrongBoxes() {
		for _, n := range []int64{0, 1, 5, -1, far, math.MaxInt64, math.MinInt64} {
			expectGrow(t, wrong, n, none, false)
		}
	}
	// One that lies the wrong way round may not be, even where it would be one then.
	expectGrow(t, from(1, 1, 0, 0), 3, none, false)
}

func TestCorners(t *testing.T) {
	for _, b := range append(boxes(-1, 1), rights...) {
		want := []api.Point{b.Lo, at(b.Hi.X, b.Lo.Y), b.Hi, at(b.Lo.X, b.Hi.Y)}
		if got := box.Corners(b); !slices.Equal(got, want) {
			t.Errorf("Corners of %v: %v, want %v", b, got, want)
		}
	}
	for _, b := range wrongBoxes() {
		if got := box.Corners(b); len(got) > 0 {
			t.Errorf("Corners of %v: %v", b, got)
		}
	}
}

// P12.2

func TestMeets(t *testing.T) {
	b := from(2, 3, 6, 5)
	for _, c := range []struct {
		p, q api.Point
		want bool
	}{
		// All in it, one end in it, through it.
		{at(3, 4), at(5, 4), true},
		{at(3, 4), at(3, 4), true},
		{at(4, 4), at(99, 77), true},
		{at(0, 4), at(9, 4), true},
		{at(4, 0), at(4, 9), true},
		{at(0, 2), at(9, 7), true},
		{at(0, 0), at(8, 9), true},
		// Along a side, and at a corner alone.
		{at(0, 3), at(9, 3), true},
		{at(0, 5), at(9, 5), true},
		{at(2, 0), at(2, 9), true},
		{at(6, 0), at(6, 9), true},
		{at(6, 5), at(8, 8), true},
		{at(5, 7), at(7, 3), true},
		{at(5, 6), at(7, 4), true},
		{at(1, 4), at(3, 2), true},
		{at(1, 4), at(3, 6), true},
		{at(5, 2), at(7, 4), true},
		// Beyond a side, beside a corner, short of it.
		{at(0, 2), at(9, 2), false},
		{at(0, 6), at(9, 6), false},
		{at(1, 0), at(1, 9), false},
		{at(7, 0), at(7, 9), false},
		{at(5, 7), at(8, 4), false},
		{at(0, 4), at(3, 1), false},
		{at(0, 4), at(1, 4), false},
		{at(7, 4), at(9, 4), false},
		{at(4, 0), at(4, 2), false},
		{at(4, 6), at(4, 6), false},
		{at(0, 0), at(0, 0), false},
	} {
		expectMeets(t, b, c.p, c.q, c.want)
	}
}

func TestMeetsOfAnyBoxes(t *testing.T) {
	places := grid(-1, 4)
	for _, b := range boxes(0, 2) {
		for _, p := range places {
			for _, q := range places {
				if want := doesMeet(b, p, q); box.Meets(b, p, q) != want {
					t.Fatalf("Meets of %v, from %v to %v: %v", b, p, q, !want)
				}
			}
		}
	}
	x := noise(88172645463325252)
	met := 0
	for range 20000 {
		out := int64(1) << (2 + x.below(39))
		b, p, q := x.box(out), x.place(out), x.place(out)
		want := doesMeet(b, p, q)
		if want {
			met++
		}
		expectMeets(t, b, p, q, want)
	}
	if met < 4000 || met > 16000 {
		t.Errorf("%d of 20000 met", met)
	}
}

// TestMeetsOfTheGreatest: the least that there is between places, over the greatest ways.
func TestMeetsOfTheGreatest(t *testing.T) {
	dot := from(0, 0, 0, 0)
	expectMeets(t, dot, at(-far, -far), at(far, far), true)
	expectMeets(t, dot, at(-far, -far), at(far, far-1), false)
	expectMeets(t, dot, at(-far, -far+1), at(far, far), false)
	expectMeets(t, dot, at(-far, far), at(far, -far), true)
	expectMeets(t, from(1, 0, 1, 0), at(-far, -far), at(far, far), false)
	expectMeets(t, from(0, -1, 0, -1), at(-far, -far), at(far, far-1), false)
	expectMeets(t, from(0, -1, 0, 0), at(-far, -far), at(far, far-1), true)
	expectMeets(t, from(-far, -far, far, far), at(far, far), at(far, far), true)
	expectMeets(t, from(-far, -far, far-1, far-1), at(far, -far), at(far, far), false)
	expectMeets(t, from(-far, -far, far-1, far-1), at(far, -far), at(far-1, far), false)
	expectMeets(t, from(-far, -far, far-1, far-1), at(far, -far), at(far-2, far), true)
}

func TestMeetsOfWhatMayNotBe(t *testing.T) {
	for _, wrong := range wrongPlaces() {
		for _, b := range rights {
			expectMeets(t, b, b.Lo, wrong, false)
			expectMeets(t, b, wrong, wrong, false)
		}
	}
	for _, wrong := range wrongBoxes() {
		expectMeets(t, wrong, at(0, 0), at(0, 0), false)
		expectMeets(t, wrong, at(-far, -far), at(far, far), false)
		expectMeets(t, wrong, at(-far, 0), at(far, 0), false)
		expectMeets(t, wrong, wrong.Lo, wrong.Hi, false)
	}
}

func TestRelate(t *testing.T) {
	square := row(0, 0, 4, 0, 4, 4, 0, 4)
	notched := row(0, 0, 9, 0, 9, 9, 6, 9, 6, 3, 3, 3, 3, 9, 0, 9)
	for _, c := range []struct {
		b    api.Box
		area []api.Point
		want int
	}{
		{from(1, 1, 2, 2), square, 1},
		{from(3, 3, 5, 5), square, 0},
		{from(6, 6, 7, 7), square, -1},
		{from(1, 1, 3, 3), square, 1},
		{from(2, 2, 2, 2), square, 1},
		{from(5, 1, 5, 1), square, -1},
		// A side or a corner alone that is touched, from inside and from outside.
		{from(0, 1, 3, 3), square, 0},
		{from(1, 1, 4, 3), square, 0},
		{from(1, 0, 3, 3), square, 0},
		{from(1, 1, 3, 4), square, 0},
		{from(4, 1, 7, 3), square, 0},
		{from(4, 4, 7, 7), square, 0},
		{from(-3, -3, 0, 0), square, 0},
		{from(5, 1, 7, 3), square, -1},
		{from(-3, -3, -1, -1), square, -1},
		// All of the area, or all of one side of it, in the box.
		{from(-1, -1, 5, 5), square, 0},
		{from(0, 0, 4, 4), square, 0},
		{from(-1, -1, 5, 1), square, 0},
		// All corners of the box inside, but not all of the box.
		{from(1, 1, 8, 8), notched, 0},
		{from(1, 4, 8, 8), notched, 0},
		// All corners of it outside, but not all of it.
		{from(-1, 4, 10, 8), notched, 0},
		{from(-1, 1, 10, 2), notched, 0},
		// In a notch.
		{from(4, 4, 5, 12), notched, -1},
		{from(4, 3, 5, 8), notched, 0},
		{from(1, 1, 8, 2), notched, 1},
		{from(7, 1, 8, 8), notched, 1},
		// Without any width.
		{from(1, 1, 1, 3), square, 1},
		{from(1, 1, 1, 4), square, 0},
		{from(4, 2, 4, 2), square, 0},
		{from(1, 7, 3, 7), square, -1},
		{from(-1, 2, 5, 2), square, 0},
		// Far out.
		{from(-far, -far, far, far), square, 0},
		{from(far, far, far, far), square, -1},
		{from(-far, -far, -1, far), square, -1},
		{from(5, -far, far, far), square, -1},
		{from(-edge+1, -edge+1, edge-1, edge-1), row(-edge, -edge, edge, -edge, edge, edge, -edge, edge), 1},
		{from(-edge+1, -edge+1, edge-1, edge), row(-edge, -edge, edge, -edge, edge, edge, -edge, edge), 0},
	} {
		expectRelate(t, c.b, c.area, c.want)
		expectRelate(t, c.b, poly.Back(c.area), c.want)
	}
}

func TestRelateOfWhatMayNotBe(t *testing.T) {
	for _, area := range [][]api.Point{
		nil, {}, row(1, 1), row(0, 0, 4, 4), row(0, 0, 4, 0, 8, 0), row(0, 0, 4, 4, 4, 0, 0, 4), row(0, 0, edge+1, 0, 0, 4), row(0, 0, 4, 0, 4, 4, 0, 0),
		row(0, 0, 9, 0, 9, 9, 8, 9, 7, 2, 6, 9, 5, 2, 4, 9, 0, 9), row(0, 0, far+1, 0, 0, 9),
	} {
		for _, b := range append(slices.Clone(rights), from(-1, -1, 1, 1), from(2, 1, 2, 1), from(0, 0, 4, 4), from(1, 1, 0, 0)) {
			expectRelate(t, b, area, -1)
		}
	}
	square := row(-4, -4, 4, -4, 4, 4, -4, 4)
	for _, wrong := range wrongBoxes() {
		expectRelate(t, wrong, square, -1)
	}
	expectRelate(t, from(1, 1, 0, 0), square, -1)
	expectRelate(t, from(5, 5, -5, -5), square, -1)
}

func TestRelateOfAnyBoxes(t *testing.T) {
	x := noise(2463534242)
	counts := map[int]int{}
	for range 100 {
		area := x.area(7)
		for range 200 {
			p, q := at(x.below(10)-1, x.below(10)-1), at(x.below(4), x.below(4))
			b := from(p.X, p.Y, p.X+q.X, p.Y+q.Y)
			want := relation(b, area)
			counts[want]++
			expectRelate(t, b, area, want)
		}
	}
	if counts[1] < 100 || counts[0] < 1000 || counts[-1] < 1000 {
		t.Errorf("the relations came so often: %v", counts)
	}
}

func TestWhatIsHandedInStays(t *testing.T) {
	room := row(0, 0, 4, 0, 4, 4, 0, 4, 77, 77)
	was := slices.Clone(room)
	for _, b := range boxes(-1, 5) {
		box.Relate(b, room[:4])
	}
	if !slices.Equal(room, was) {
		t.Error(room)
	}
	corners := box.Corners(from(1, 1, 2, 2))
	corners[0] = at(9, 9)
	if again := box.Corners(from(1, 1, 2, 2)); again[0] != at(1, 1) {
		t.Error(again)
	}
}

// P12.3

func TestABoxInAnotherOneStaysInsideOrOutside(t *testing.T) {
	x := noise(362436069)
	many := map[int]int{}
	for range 60 {
		area := x.area(8)
		for range 40 {
			p := at(x.below(11)-2, x.below(11)-2)
			b := from(p.X, p.Y, p.X+x.below(4), p.Y+x.below(4))
			want := box.Relate(b, area)
			if want == 0 {
				continue
			}
			many[want]++
			for _, in := range boxes(0, 3) {
				in = from(p.X+in.Lo.X, p.Y+in.Lo.Y, p.X+in.Hi.X, p.Y+in.Hi.Y)
				if box.In(in, b) {
					expectRelate(t, in, area, want)
				}
			}
		}
	}
	if many[1] < 30 || many[-1] < 100 {
		t.Errorf("%v were inside or outside", many)
	}
}

func TestAllPlacesOfABoxAreWhereItIs(t *testing.T) {
	x := noise(123456789)
	many := map[int]int{}
	for range 300 {
		area := x.area(9)
		for range 40 {
			p := at(x.below(12)-2, x.below(12)-2)
			b := from(p.X, p.Y, p.X+x.below(5), p.Y+x.below(5))
			want := box.Relate(b, area)
			for _, q := range grid(-2, 14) {
				if want != 0 && box.Has(b, q) {
					many[want]++
					if got := poly.Side(area, q); got != want {
						t.Fatalf("%v is %d to %v, and %v is %d", b, want, area, q, got)
					}
				}
			}
		}
	}
	if many[1] < 500 || many[-1] < 1000 {
		t.Errorf("%v were inside or outside", many)
	}
}
