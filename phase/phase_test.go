package phase_test

import (
	"math"
	"reflect"
	"testing"

	"apogee/api"
	"apogee/phase"
)

const maxCycles = 1000000

func square(side int64) []api.Point {
	return []api.Point{{}, {X: side}, {X: side, Y: side}, {Y: side}}
}

// mission are rules of so many phases, each with another Min and Up.
func mission(phases int) api.Rules {
	r := api.Rules{N: 2, D: 3, Green: 4, Eps: 5, Step: 6, Age: 7, Lift: 8, Safing: 1}
	for i := range phases {
		r.Phases = append(r.Phases, api.Phase{Area: square(100 + int64(i)), G: 7, MaxV: 500, Min: 2 + i, Up: 40 * int64(i)})
	}
	return r
}

func made(t *testing.T, r api.Rules) *phase.Machine {
	t.Helper()
	m := phase.New(r)
	if m == nil {
		t.Fatalf("none of %v", r)
	}
	expectNow(t, m, r, 0, 0)
	return m
}

func expectNow(t *testing.T, m *phase.Machine, r api.Rules, number, in int) {
	t.Helper()
	if m.Phase() != number || m.In() != in {
		t.Fatalf("the phase %d for %d cycles, want %d for %d", m.Phase(), m.In(), number, in)
	}
	if !reflect.DeepEqual(m.Now(), r.Phases[number]) {
		t.Fatalf("Now: %v, want %v", m.Now(), r.Phases[number])
	}
	if m.Last() != (number == len(r.Phases)-1) {
		t.Fatalf("Last: %v, in the phase %d of %d", m.Last(), number, len(r.Phases))
	}
}

func expectWish(t *testing.T, m *phase.Machine, height int64, known, want bool) {
	t.Helper()
	if m.Wish(height, known) != want {
		t.Fatalf("Wish of %d, %v, in the phase %d for %d cycles: %v", height, known, m.Phase(), m.In(), !want)
	}
}

type noise uint64

func (x *noise) below(n int) int {
	*x ^= *x << 13
	*x ^= *x >> 7
	*x ^= *x << 17
	return int(*x>>33) % n
}

// P21.1

func TestNew(t *testing.T) {
	for phases := range 7 {
		if m := phase.New(mission(phases)); (m != nil) != (phases >= 1 && phases <= 4) {
			t.Errorf("of %d phases: %v", phases, m)
		}
	}
	for i, change := range []func(r *api.Rules){
		func(r *api.Rules) { r.N = 0 },
		func(r *api.Rules) { r.Eps = -1 },
		func(r *api.Rules) { r.Step = 0 },
		func(r *api.Rules) { r.Age = 51 },
		func(r *api.Rules) { r.Lift = 0 },
		func(r *api.Rules) { r.Safing = 3 },
		func(r *api.Rules) { r.Phases[1].Area = nil },
		func(r *api.Rules) { r.Phases[0].Min = 0 },
		func(r *api.Rules) { r.Phases[1].Up = -1 },
	} {
		r := mission(2)
		change(&r)
		if m := phase.New(r); m != nil {
			t.Errorf("%d: %v", i, m)
		}
	}
}

func TestWish(t *testing.T) {
	r := mission(3)
	heights := []int64{0, 1, 39, 40, 41, 79, 80, 1 << 30, 1 << 31, -1, -40, math.MaxInt64, math.MinInt64}
	for number := range 3 {
		for in := range 7 {
			for _, height := range heights {
				m := made(t, r)
				m.Set(number, in)
				want := number < 2 && in >= 2+number && height >= 40*int64(number)
				expectWish(t, m, height, true, want)
				expectWish(t, m, height, false, false)
				expectNow(t, m, r, number, in)
			}
		}
	}
	m := made(t, mission(1))
	m.Set(0, 999)
	expectWish(t, m, 1<<30, true, false)
}

func TestMinCycles(t *testing.T) {
	r := mission(2)
	m := made(t, r)
	for range 2 {
		expectWish(t, m, 500, true, false)
		m.Cycle(true, false)
	}
	expectWish(t, m, 500, true, true)
	expectNow(t, m, r, 0, 2)
}

func TestCycle(t *testing.T) {
	r := mission(4)
	for number := range 4 {
		for _, in := range []int{0, 1, 77, maxCycles - 1, maxCycles} {
			for _, mine := range []bool{false, true} {
				for _, theirs := range []bool{false, true} {
					m := made(t, r)
					m.Set(number, in)
					got := m.Cycle(mine, theirs)
					// It asks for no Wish.
					want := mine && theirs && number < 3
					if got != want {
						t.Errorf("Cycle of %v, %v in the phase %d: %v", mine, theirs, number, got)
					}
					if want {
						expectNow(t, m, r, number+1, 0)
					} else {
						expectNow(t, m, r, number, min(maxCycles, in+1))
					}
				}
			}
		}
	}
}

func TestThroughAllPhases(t *testing.T) {
	r := mission(4)
	m := made(t, r)
	for number := range 4 {
		expectNow(t, m, r, number, 0)
		if m.Cycle(false, true) || m.Cycle(true, false) || m.Cycle(false, false) {
			t.Fatal("it went on by itself")
		}
		expectNow(t, m, r, number, 3)
		if m.Cycle(true, true) != (number < 3) {
			t.Fatal(number)
		}
	}
	expectNow(t, m, r, 3, 4)
	for range 5 {
		m.Cycle(true, true)
	}
	expectNow(t, m, r, 3, 9)
}

func TestSet(t *testing.T) {
	for phases := 1; phases <= 4; phases++ {
		r := mission(phases)
		for _, number := range []int{math.MinInt, -1, 0, 1, 2, 3, 4, 5, 1 << 32, math.MaxInt} {
			for _, in := range []int{math.MinInt, -1, 0, 1, 5, maxCycles - 1, maxCycles, maxCycles + 1, 1 << 32, math.MaxInt} {
				m := made(t, r)
				m.Cycle(false, false)
				want := number >= 0 && number < phases && in >= 0 && in <= maxCycles
				if got := m.Set(number, in); got != want {
					t.Fatalf("Set of %d, %d, of %d phases: %v", number, in, phases, got)
				}
				if want {
					expectNow(t, m, r, number, in)
				} else {
					expectNow(t, m, r, 0, 1)
				}
			}
		}
	}
	// It goes back, too.
	r := mission(4)
	m := made(t, r)
	m.Set(3, 9)
	m.Set(1, 2)
	expectNow(t, m, r, 1, 2)
}

func TestNowIsACopy(t *testing.T) {
	r := mission(2)
	m := made(t, r)
	now := m.Now()
	now.Area[0].X, now.G = -77, 9
	expectNow(t, m, mission(2), 0, 0)
	// Nor is what it was made of kept.
	r.Phases[0].Area[1].Y, r.Phases[0].Min, r.Phases[1].Up = -5, 900, 1
	expectNow(t, m, mission(2), 0, 0)
	m.Set(0, 2)
	expectWish(t, m, 40, true, true)
	if !reflect.DeepEqual(r.Phases[1].Area, square(101)) {
		t.Error(r)
	}
}

func TestOfNone(t *testing.T) {
	var m *phase.Machine
	if m.Wish(1<<30, true) || m.Cycle(true, true) || m.Cycle(false, false) || m.Set(0, 0) {
		t.Error("of none")
	}
	if !reflect.DeepEqual(m.Now(), api.Phase{}) || m.Phase() != 0 || m.In() != 0 || !m.Last() {
		t.Error(m.Now(), m.Phase(), m.In(), m.Last())
	}
}

// TestOfOneThatNewDidNotMake: none of its calls panics, and there is no phase to go on to.
func TestOfOneThatNewDidNotMake(t *testing.T) {
	var m phase.Machine
	if m.Wish(1<<30, true) || m.Cycle(true, true) || m.Cycle(false, true) || m.Set(0, 0) {
		t.Error("of one without phases")
	}
	if !reflect.DeepEqual(m.Now(), api.Phase{}) || m.Phase() != 0 || m.In() != 0 || !m.Last() {
		t.Error(m.Now(), m.Phase(), m.In(), m.Last())
	}
}

// P21.2

func TestPhasesNeverGoBack(t *testing.T) {
	x := noise(88172645463325252)
	last := 0
	for range 300 {
		r := mission(1 + x.below(4))
		for i := range r.Phases {
			r.Phases[i].Min, r.Phases[i].Up = 1+x.below(6), int64(x.below(10))
		}
		m := made(t, r)
		began, number := 0, 0
		for cycle := 1; cycle <= 80; cycle++ {
			mine := m.Wish(int64(x.below(14)), x.below(4) > 0)
			went := m.Cycle(mine, x.below(3) > 0)
			if went != (m.Phase() == number+1) || !went && m.Phase() != number {
				t.Fatalf("from the phase %d to %d: %v", number, m.Phase(), went)
			}
			if !went {
				continue
			}
			// From the cycle that begins a phase to the one that ends it there are Min ones between.
			if cycle-began <= r.Phases[number].Min {
				t.Fatalf("the phase %d had only the cycles from %d to %d", number, began, cycle)
			}
			began, number = cycle, m.Phase()
		}
		if m.Last() {
			last++
		}
	}
	if last < 100 {
		t.Errorf("only %d came to the last phase", last)
	}
}
