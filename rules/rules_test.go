package rules_test

import (
	"math"
	"reflect"
	"slices"
	"testing"

	"apogee/api"
	"apogee/rules"
)

func at(x, y int64) api.Point { return api.Point{X: x, Y: y} }

func square(side int64) []api.Point {
	return []api.Point{at(0, 0), at(side, 0), at(side, side), at(0, side)}
}

// phase is one that may be.
func phase() api.Phase {
	return api.Phase{Area: square(900), G: 7, MaxV: 500, Min: 3, Up: 40}
}

// mission are rules that may be, of so many phases.
func mission(phases int) api.Rules {
	r := api.Rules{N: 2, D: 3, Green: 4, Eps: 5, Step: 6, Age: 7, Lift: 8, Safing: 1}
	for i := range phases {
		p := phase()
		p.Area = square(100 + int64(i))
		p.Up += int64(i)
		r.Phases = append(r.Phases, p)
	}
	return r
}

// odd are numbers that nothing of a mission has.
func odd() []int64 {
	return []int64{-1, -2, -50, 1<<30 + 1, 1 << 31, 1 << 32, 1<<32 + 1, 1<<32 + 7, -1<<32 + 1, 1 << 62, math.MinInt64, math.MinInt64 + 1, math.MaxInt64}
}

// field is a number that may be from lo to hi.
type field struct {
	name   string
	set    func(n int64)
	lo, hi int64
}

// edges are numbers that it may be, and numbers that it may not.
func (f field) edges() (right, wrong []int64) {
	right = []int64{f.lo, f.lo + 1, (f.lo + f.hi) / 2, f.hi - 1, f.hi}
	return right, append(odd(), f.lo-1, f.hi+1, f.hi+2, 2*f.hi+1)
}

// phaseFields are a phase's numbers.
func phaseFields(p *api.Phase) []field {
	return []field{
		{"G", func(n int64) { p.G = n }, 1, 100},
		{"MaxV", func(n int64) { p.MaxV = n }, 1, 1 << 16},
		{"Min", func(n int64) { p.Min = int(n) }, 1, 1000000},
		{"Up", func(n int64) { p.Up = n }, 0, 1 << 30},
	}
}

// numbered is a field, and the number of the rule that asks for it.
type numbered struct {
	field
	rule int
}

// fields are the numbers of rules, beside their phases.
func fields(r *api.Rules) []numbered {
	return []numbered{
		{field{"N", func(n int64) { r.N = int(n) }, 1, 50}, 3},
		{field{"D", func(n int64) { r.D = int(n) }, 1, 50}, 3},
		{field{"Green", func(n int64) { r.Green = int(n) }, 1, 50}, 3},
		{field{"Eps", func(n int64) { r.Eps = n }, 0, 1 << 10}, 4},
		{field{"Step", func(n int64) { r.Step = n }, 1, 1 << 16}, 5},
		{field{"Age", func(n int64) { r.Age = int(n) }, 1, 50}, 6},
		{field{"Lift", func(n int64) { r.Lift = n }, 1, 1 << 30}, 7},
		{field{"Safing", func(n int64) { r.Safing = int(n) }, 0, int64(len(r.Phases))}, 8},
	}
}

func wrongAreas() [][]api.Point {
	return [][]api.Point{
		nil, {}, square(9)[:2], {at(0, 0), at(4, 4), at(4, 0), at(0, 4)}, {at(0, 0), at(4, 0), at(8, 0)}, square(1<<30 + 1),
		{at(0, 0), at(9, 0), at(9, 9), at(8, 9), at(7, 2), at(6, 9), at(5, 2), at(4, 9), at(0, 9)},
	}
}

func expectWrong(t *testing.T, r api.Rules, want int) {
	t.Helper()
	if got := rules.Wrong(r); got != want {
		t.Fatalf("Wrong of %v: %d, want %d", r, got, want)
	}
	if rules.Right(r) != (want == 0) {
		t.Fatalf("Right of %v: %v", r, want != 0)
	}
	window := 0
	if want == 0 {
		window = r.N + r.D + 2
	}
	if got := rules.Window(r); got != window {
		t.Fatalf("Window of %v: %d, want %d", r, got, window)
	}
}

func expectPhase(t *testing.T, p api.Phase, want bool) {
	t.Helper()
	if rules.RightPhase(p) != want {
		t.Fatalf("RightPhase of %v: %v", p, !want)
	}
	rule := 2
	if want {
		rule = 0
	}
	// It is asked of each phase, wherever it stands.
	for i := range 4 {
		r := mission(4)
		r.Phases[i] = p
		expectWrong(t, r, rule)
	}
}

func expectSame(t *testing.T, a, b api.Rules, want bool) {
	t.Helper()
	if rules.Same(a, b) != want || rules.Same(b, a) != want {
		t.Fatalf("Same of %v and %v: %v, %v; want %v", a, b, rules.Same(a, b), rules.Same(b, a), want)
	}
}

// P13.1

func TestMissions(t *testing.T) {
	for phases := 1; phases <= 4; phases++ {
		for safing := 0; safing <= phases; safing++ {
			r := mission(phases)
			r.Safing = safing
			expectWrong(t, r, 0)
		}
	}
	least := api.Rules{Phases: []api.Phase{{Area: square(1)[:3], G: 1, MaxV: 1, Min: 1}}, N: 1, D: 1, Green: 1, Step: 1, Age: 1, Lift: 1}
	expectWrong(t, least, 0)
	most := api.Rules{N: 50, D: 50, Green: 50, Eps: 1 << 10, Step: 1 << 16, Age: 50, Lift: 1 << 30, Safing: 4}
	for range 4 {
		most.Phases = append(most.Phases, api.Phase{Area: square(1 << 30), G: 100, MaxV: 1 << 16, Min: 1000000, Up: 1 << 30})
	}
	expectWrong(t, most, 0)
}

func TestHowManyPhases(t *testing.T) {
	expectWrong(t, api.Rules{}, 1)
	for _, phases := range []int{0, 5, 6, 8, 300} {
		r := mission(phases)
		expectWrong(t, r, 1)
		r.Safing = 0
		expectWrong(t, r, 1)
	}
	r := mission(1)
	r.Phases = []api.Phase{}
	expectWrong(t, r, 1)
}

func TestPhaseNumbersAtTheirEdges(t *testing.T) {
	expectPhase(t, phase(), true)
	expectPhase(t, api.Phase{}, false)
	var p api.Phase
	for i, f := range phaseFields(&p) {
		right, wrong := f.edges()
		for _, n := range right {
			p = phase()
			phaseFields(&p)[i].set(n)
			expectPhase(t, p, true)
		}
		for _, n := range wrong {
			p = phase()
			phaseFields(&p)[i].set(n)
			expectPhase(t, p, false)
		}
	}
}

func TestAreasOfPhases(t *testing.T) {
	for _, area := range wrongAreas() {
		p := phase()
		p.Area = area
		expectPhase(t, p, false)
	}
	for _, area := range [][]api.Point{square(1), square(1 << 30), square(5)[:3], square(5)[1:]} {
		p := phase()
		p.Area = area
		expectPhase(t, p, true)
	}
}

func TestNumbersAtTheirEdges(t *testing.T) {
	for _, phases := range []int{1, 2, 4} {
		r := mission(phases)
		for i, f := range fields(&r) {
			right, wrong := f.edges()
			for _, n := range right {
				if n >= f.lo && n <= f.hi {
					r = mission(phases)
					fields(&r)[i].set(n)
					expectWrong(t, r, 0)
				}
			}
			for _, n := range wrong {
				r = mission(phases)
				fields(&r)[i].set(n)
				expectWrong(t, r, f.rule)
			}
		}
	}
	r := mission(1)
	r.N = 0
	expectWrong(t, r, 3)
}

// TestTheFirstThatIsWrong: of two that are wrong the one with the lesser number is told.
func TestTheFirstThatIsWrong(t *testing.T) {
	r := mission(2)
	list := fields(&r)
	for i, f := range list {
		for j, g := range list {
			r = mission(2)
			fields(&r)[i].set(f.lo - 1)
			fields(&r)[j].set(g.hi + 1)
			expectWrong(t, r, min(f.rule, g.rule))
		}
		r = mission(2)
		fields(&r)[i].set(f.hi + 1)
		r.Phases[1].G = 0
		expectWrong(t, r, 2)
		r.Phases = append(r.Phases, r.Phases...)
		expectWrong(t, r, 2)
		r.Phases = append(r.Phases, phase())
		expectWrong(t, r, 1)
		r.Phases = nil
		expectWrong(t, r, 1)
	}
}

func TestPhase(t *testing.T) {
	for phases := range 7 {
		r := mission(phases)
		for i := range phases {
			if got, ok := rules.Phase(r, i); !ok || !reflect.DeepEqual(got, r.Phases[i]) {
				t.Errorf("Phase %d of %d: %v, %v", i, phases, got, ok)
			}
		}
		for _, i := range []int{-1, phases, phases + 1, -1 << 32, 1 << 32, math.MaxInt, math.MinInt} {
			if got, ok := rules.Phase(r, i); ok || !reflect.DeepEqual(got, api.Phase{}) {
				t.Errorf("Phase %d of %d: %v, %v", i, phases, got, ok)
			}
		}
	}
	// It asks for no phase that may be.
	r := api.Rules{Phases: []api.Phase{{G: -5, Min: -7}}}
	if got, ok := rules.Phase(r, 0); !ok || got.G != -5 || got.Min != -7 || len(got.Area) > 0 {
		t.Error(got, ok)
	}
}

func TestCopy(t *testing.T) {
	for phases := range 7 {
		r := mission(phases)
		if got := rules.Copy(r); !reflect.DeepEqual(got, r) {
			t.Errorf("Copy of %v: %v", r, got)
		}
	}
	for _, r := range []api.Rules{{}, {N: -1, Phases: []api.Phase{{}, {Area: []api.Point{}}}, Safing: math.MinInt, Lift: math.MaxInt64}} {
		if got := rules.Copy(r); !rules.Same(got, r) || len(got.Phases) != len(r.Phases) {
			t.Errorf("Copy of %v: %v", r, got)
		}
	}
}

// TestCopiesAreNewMemory: neither of both is changed through the other one, its spare room neither.
func TestCopiesAreNewMemory(t *testing.T) {
	r := mission(3)
	r.Phases = append(r.Phases, phase())[:3]
	for i := range r.Phases {
		r.Phases[i].Area = append(r.Phases[i].Area, at(55, 55))[:4]
	}
	was := mission(3)
	c := rules.Copy(r)
	p, _ := rules.Phase(r, 1)
	for _, area := range [][]api.Point{c.Phases[0].Area, c.Phases[1].Area, c.Phases[2].Area, p.Area} {
		area[0], area[3] = at(-9, -9), at(-8, -8)
		_ = append(area, at(-7, -7))
	}
	c.Phases[2].G = 99
	_ = append(c.Phases, api.Phase{G: 98})
	if !reflect.DeepEqual(r, was) || r.Phases[:4][3].G != 7 || r.Phases[0].Area[:5][4] != at(55, 55) || r.Phases[1].Area[:5][4] != at(55, 55) {
		t.Error(r)
	}
	d := rules.Copy(r)
	r.Phases[0].Area[1] = at(-1, -1)
	r.Phases[1].Up = -1
	if !reflect.DeepEqual(d, was) {
		t.Error(d)
	}
	rules.Wrong(was)
	rules.Same(was, d)
	rules.Window(was)
	if !reflect.DeepEqual(d, was) {
		t.Error(was)
	}
}

func TestSame(t *testing.T) {
	for phases := range 5 {
		expectSame(t, mission(phases), mission(phases), true)
		for others := range 5 {
			expectSame(t, mission(phases), mission(others), phases == others)
		}
	}
	expectSame(t, api.Rules{}, api.Rules{Phases: []api.Phase{}}, true)
	expectSame(t, api.Rules{Phases: []api.Phase{{}}}, api.Rules{Phases: []api.Phase{{Area: []api.Point{}}}}, true)
	expectSame(t, api.Rules{Phases: []api.Phase{{}}}, api.Rules{}, false)
	r := mission(2)
	for i := range fields(&r) {
		r = mission(2)
		fields(&r)[i].set(45)
		expectSame(t, r, mission(2), false)
		other := mission(2)
		fields(&other)[i].set(45)
		expectSame(t, r, other, true)
	}
	for at := range 2 {
		for i := range phaseFields(&r.Phases[0]) {
			r = mission(2)
			phaseFields(&r.Phases[at])[i].set(45)
			expectSame(t, r, mission(2), false)
		}
	}
}

func TestSameAsksEachCorner(t *testing.T) {
	for i := range 2 {
		for corner := range 4 {
			for _, by := range []api.Point{at(1, 0), at(0, 1), at(-1, 1)} {
				r := mission(2)
				r.Phases[i].Area[corner].X += by.X
				r.Phases[i].Area[corner].Y += by.Y
				expectSame(t, r, mission(2), false)
			}
		}
		for _, area := range [][]api.Point{square(100 + int64(i))[:3], nil, append(square(100+int64(i)), at(0, 50))} {
			r := mission(2)
			r.Phases[i].Area = area
			expectSame(t, r, mission(2), false)
		}
	}
	r := mission(2)
	slices.Reverse(r.Phases)
	expectSame(t, r, mission(2), false)
	// The same area from another corner on isn't the same.
	r = mission(2)
	a := r.Phases[0].Area
	a[0], a[1], a[2], a[3] = a[1], a[2], a[3], a[0]
	expectSame(t, r, mission(2), false)
}

func TestWindow(t *testing.T) {
	for _, n := range []int{1, 2, 7, 50} {
		for _, d := range []int{1, 3, 50} {
			r := mission(1)
			r.N, r.D, r.Green = n, d, 9
			expectWrong(t, r, 0)
		}
	}
	r := mission(1)
	r.N, r.D = 2, 3
	if got := rules.Window(r); got != 7 {
		t.Error(got)
	}
}
