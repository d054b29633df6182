package source_test

import (
	"math"
	"math/big"
	"slices"
	"testing"

	"apogee/api"
	"apogee/source"
)

// How far from 0 a place and a speed may be.
const (
	maxPos = 1 << 30
	maxVel = 1 << 16
)

// ofRules is a source by a Step and an Age alone.
func ofRules(t *testing.T, step int64, age int) *source.Source {
	t.Helper()
	s := source.New(api.Rules{Step: step, Age: age})
	if s == nil {
		t.Fatalf("none with Step %d, Age %d", step, age)
	}
	expectState(t, s, api.Nav{}, false, 0)
	return s
}

// counted is a nav of a count and a speed alone.
func counted(count int, vx int64) api.Nav { return api.Nav{Count: count, VX: vx} }

func expectState(t *testing.T, s *source.Source, last api.Nav, has bool, age int) {
	t.Helper()
	if got, ok := s.Last(); got != last || ok != has {
		t.Fatalf("Last: %v, %v; want %v, %v", got, ok, last, has)
	}
	if got := s.Age(); got != age {
		t.Fatalf("Age: %d, want %d", got, age)
	}
}

// expectCycle is of navs of which the last one is told just if there is no fault.
func expectCycle(t *testing.T, s *source.Source, want source.Fault, list ...api.Nav) {
	t.Helper()
	told := api.Nav{}
	if want == 0 {
		told = list[len(list)-1]
	}
	if got, fault := s.Cycle(list); got != told || fault != want {
		t.Fatalf("Cycle of %v: %v, %d; want %v, %d", list, got, fault, told, want)
	}
}

// model reckons by numbers of any size.
type model struct {
	step      int64
	most, age int
	last      *api.Nav
}

func (m *model) cycle(list []api.Nav) (api.Nav, source.Fault) {
	fault := source.Missing
	n := api.Nav{}
	if len(list) > 0 {
		n = list[len(list)-1]
		fault = m.faults(n)
	}
	if fault == 0 {
		m.last, m.age = &n, 0
		return n, 0
	}
	m.age = min(1000000, m.age+1)
	if m.age > m.most {
		m.last = nil
	}
	return api.Nav{}, fault
}

func (m *model) faults(n api.Nav) source.Fault {
	fault := source.Fault(0)
	if n.Flags != 0 {
		fault += 4
	}
	beyond := func(n, most int64) bool { return big.NewInt(n).CmpAbs(big.NewInt(most)) > 0 }
	if beyond(n.X, maxPos) || beyond(n.Y, maxPos) || beyond(n.Z, maxPos) || beyond(n.VX, maxVel) || beyond(n.VY, maxVel) || beyond(n.VZ, maxVel) {
		fault += 8
	}
	if m.last == nil {
		return fault
	}
	if n.Count == m.last.Count {
		fault += 2
	}
	most := new(big.Int).Mul(big.NewInt(m.step), big.NewInt(int64(m.age)+1))
	jumps := func(n, last int64) bool {
		return new(big.Int).Sub(big.NewInt(n), big.NewInt(last)).CmpAbs(most) > 0
	}
	if jumps(n.VX, m.last.VX) || jumps(n.VY, m.last.VY) || jumps(n.VZ, m.last.VZ) {
		fault += 16
	}
	return fault
}

func (m *model) expect(t *testing.T, s *source.Source) {
	t.Helper()
	if m.last == nil {
		expectState(t, s, api.Nav{}, false, m.age)
	} else {
		expectState(t, s, *m.last, true, m.age)
	}
}

type noise uint64

func (x *noise) below(n int64) int64 {
	*x ^= *x << 13
	*x ^= *x >> 7
	*x ^= *x << 17
	return int64(*x>>1) % n
}

// number is at times one at the edges of what may be, or far beyond them.
func (x *noise) number(most int64) int64 {
	switch x.below(30) {
	case 0:
		return most + x.below(3) - 1
	case 1:
		return -most + x.below(3) - 1
	case 2:
		return []int64{math.MaxInt64, math.MinInt64, math.MinInt64 + 1, 1 << 62, -1 << 31}[x.below(5)]
	}
	return x.below(41) - 20
}

func (x *noise) nav() api.Nav {
	n := api.Nav{Count: int(x.below(3)), X: x.number(maxPos), Y: x.number(maxPos), Z: x.number(maxPos), VX: x.number(maxVel), VY: x.number(maxVel), VZ: x.number(maxVel)}
	if x.below(8) == 0 {
		n.Flags = int(x.below(256))
	}
	return n
}

func TestFaultNumbers(t *testing.T) {
	got := []source.Fault{source.Missing, source.Stale, source.Flagged, source.Far, source.Jumps}
	if !slices.Equal(got, []source.Fault{1, 2, 4, 8, 16}) {
		t.Error(got)
	}
}

// P15.1

func TestNew(t *testing.T) {
	for _, step := range []int64{math.MinInt64, -1, 0, 1, 2, 1 << 16, math.MaxInt64} {
		for _, age := range []int{math.MinInt, -1, 0, 1, 2, 50, math.MaxInt} {
			// The other numbers aren't asked.
			s := source.New(api.Rules{Step: step, Age: age, N: -5, Eps: -1})
			if (s != nil) != (step >= 1 && age >= 1) {
				t.Errorf("Step %d, Age %d: %v", step, age, s)
			}
		}
	}
}

func TestTheLastOneCounts(t *testing.T) {
	s := ofRules(t, 5, 2)
	a, b, flagged := counted(1, 3), counted(2, 4), api.Nav{Count: 3, Flags: 1}
	expectCycle(t, s, 0, flagged, b, a)
	expectState(t, s, a, true, 0)
	expectCycle(t, s, 0, a, a, b)
	expectState(t, s, b, true, 0)
	expectCycle(t, s, source.Stale, counted(9, 4), b)
	expectState(t, s, b, true, 1)
	expectCycle(t, s, source.Flagged, a, flagged)
	expectState(t, s, b, true, 2)
	expectCycle(t, s, 0, counted(7, 8))
	expectState(t, s, counted(7, 8), true, 0)
}

func TestMissing(t *testing.T) {
	s := ofRules(t, 5, 2)
	expectCycle(t, s, source.Missing)
	expectState(t, s, api.Nav{}, false, 1)
	expectCycle(t, s, 0, counted(1, 1))
	for age := 1; age <= 2; age++ {
		expectCycle(t, s, source.Missing, []api.Nav{}...)
		expectState(t, s, counted(1, 1), true, age)
	}
	expectCycle(t, s, source.Missing)
	expectState(t, s, api.Nav{}, false, 3)
	expectCycle(t, s, source.Missing)
	expectState(t, s, api.Nav{}, false, 4)
	// Behind that nothing is held against what it told.
	expectCycle(t, s, 0, counted(1, 60000))
	expectState(t, s, counted(1, 60000), true, 0)
}

func TestStale(t *testing.T) {
	s := ofRules(t, 5, 3)
	// No last one has any count, the count 0 neither.
	expectCycle(t, s, 0, api.Nav{})
	expectCycle(t, s, source.Stale, api.Nav{})
	expectCycle(t, s, source.Stale, api.Nav{X: 1, VX: 5})
	expectCycle(t, s, 0, counted(1, 0))
	expectCycle(t, s, 0, counted(0, 0))
	expectCycle(t, s, 0, counted(65535, 0))
	expectCycle(t, s, source.Stale, counted(65535, 1))
	expectCycle(t, s, 0, counted(65534, 0))
	// One that was refused isn't what the next one is held against.
	expectCycle(t, s, source.Flagged, api.Nav{Count: 7, Flags: 8})
	expectCycle(t, s, 0, counted(7, 0))
	expectCycle(t, s, 0, counted(-3, 0))
	expectCycle(t, s, source.Stale, counted(-3, 0))
}

func TestFlagged(t *testing.T) {
	for _, flags := range []int{1, 2, 4, 128, 255, 256, -1, math.MinInt, 1 << 40} {
		s := ofRules(t, 5, 3)
		expectCycle(t, s, source.Flagged, api.Nav{Flags: flags})
		expectState(t, s, api.Nav{}, false, 1)
	}
}

// numbers are a nav's numbers, and how far from 0 each one may be.
func numbers(n *api.Nav) map[*int64]int64 {
	return map[*int64]int64{&n.X: maxPos, &n.Y: maxPos, &n.Z: maxPos, &n.VX: maxVel, &n.VY: maxVel, &n.VZ: maxVel}
}

func TestFar(t *testing.T) {
	var n api.Nav
	for p, most := range numbers(&n) {
		for _, right := range []int64{0, 1, -1, most - 1, most, -most + 1, -most} {
			n = api.Nav{}
			*p = right
			expectCycle(t, ofRules(t, 1, 1), 0, n)
		}
		for _, wrong := range []int64{most + 1, -most - 1, 2 * most, -2 * most, 1 << 31, 1 << 32, -1 << 32, math.MaxInt64, math.MinInt64, math.MinInt64 + 1} {
			n = api.Nav{}
			*p = wrong
			s := ofRules(t, 1, 1)
			expectCycle(t, s, source.Far, n)
			expectState(t, s, api.Nav{}, false, 1)
		}
	}
}

func TestJumps(t *testing.T) {
	for i := range 3 {
		with := func(count int, speed int64) api.Nav {
			n := api.Nav{Count: count, X: int64(count) * 1000, VX: 7, VY: 7, VZ: 7}
			*[]*int64{&n.VX, &n.VY, &n.VZ}[i] = speed
			return n
		}
		for _, c := range []struct {
			from, to int64
			jumps    bool
		}{
			{100, 110, false}, {100, 111, true}, {100, 90, false}, {100, 89, true}, {-5, 5, false}, {-5, 6, true}, {5, -5, false}, {5, -6, true},
			{maxVel, maxVel - 10, false}, {maxVel, -maxVel, true}, {-maxVel, maxVel, true},
		} {
			s := ofRules(t, 10, 5)
			expectCycle(t, s, 0, with(1, c.from))
			if c.jumps {
				expectCycle(t, s, source.Jumps, with(2, c.to))
				expectState(t, s, with(1, c.from), true, 1)
			} else {
				expectCycle(t, s, 0, with(2, c.to))
			}
		}
		// A place may change by any number.
		s := ofRules(t, 10, 5)
		expectCycle(t, s, 0, api.Nav{Count: 1, X: -maxPos, Y: -maxPos, Z: -maxPos})
		expectCycle(t, s, 0, api.Nav{Count: 2, X: maxPos, Y: maxPos, Z: maxPos})
	}
}

// TestJumpsByAge: with each cycle in which nothing right came a speed may have changed by one Step more.
func TestJumpsByAge(t *testing.T) {
	for age := range 4 {
		for _, c := range []struct {
			to   int64
			want source.Fault
		}{{10 * (int64(age) + 1), 0}, {10*(int64(age)+1) + 1, source.Jumps}, {-10 * (int64(age) + 1), 0}, {-10*(int64(age)+1) - 1, source.Jumps}} {
			s := ofRules(t, 10, 4)
			expectCycle(t, s, 0, counted(1, 0))
			for range age {
				expectCycle(t, s, source.Missing)
			}
			expectCycle(t, s, c.want, counted(2, c.to))
		}
	}
}

// TestTheGreatestSteps: a Step times the age may be more than a number of 64 bits, and so may a difference.
func TestTheGreatestSteps(t *testing.T) {
	for _, c := range []struct {
		step     int64
		age      int
		from, to int64
		want     source.Fault
	}{
		{1 << 62, 0, 0, 1 << 62, source.Far},
		{1 << 62, 0, 0, 1<<62 + 1, source.Far | source.Jumps},
		{1 << 62, 1, 0, math.MinInt64, source.Far},
		{1 << 62, 1, 1, math.MinInt64, source.Far | source.Jumps},
		{1 << 62, 3, maxVel, math.MinInt64, source.Far},
		{1 << 62, 4, maxVel, math.MinInt64, source.Far},
		{math.MaxInt64, 0, 0, math.MaxInt64, source.Far},
		{math.MaxInt64, 0, 0, math.MinInt64, source.Far | source.Jumps},
		{math.MaxInt64, 0, -maxVel, math.MaxInt64, source.Far | source.Jumps},
		{math.MaxInt64, 0, -1, math.MaxInt64 - 1, source.Far},
		{math.MaxInt64, 1, maxVel, math.MinInt64, source.Far},
		{math.MaxInt64, 2, maxVel, math.MinInt64, source.Far},
		{math.MaxInt64, 0, maxVel, -maxVel, 0},
		{math.MaxInt64, 9, maxVel, -maxVel, 0},
		{1, 0, maxVel, math.MinInt64, source.Far | source.Jumps},
		{1, 0, -maxVel, math.MaxInt64, source.Far | source.Jumps},
	} {
		s := ofRules(t, c.step, 50)
		expectCycle(t, s, 0, counted(1, c.from))
		for range c.age {
			expectCycle(t, s, source.Missing)
		}
		expectCycle(t, s, c.want, counted(2, c.to))
	}
}

func TestFaultsTogether(t *testing.T) {
	s := ofRules(t, 10, 9)
	all := api.Nav{Count: 5, Flags: 1, VX: maxVel + 1}
	expectCycle(t, s, source.Flagged|source.Far, all)
	expectCycle(t, s, 0, counted(5, 0))
	expectCycle(t, s, source.Stale|source.Flagged|source.Far|source.Jumps, all)
	expectCycle(t, s, source.Stale|source.Flagged, api.Nav{Count: 5, Flags: 1})
	expectCycle(t, s, source.Stale|source.Jumps, counted(5, 99))
	expectCycle(t, s, source.Stale|source.Far, api.Nav{Count: 5, Z: maxPos + 1})
	expectCycle(t, s, source.Flagged|source.Jumps, api.Nav{Count: 6, Flags: 1, VZ: -999})
	expectState(t, s, counted(5, 0), true, 5)
}

func TestForgottenBehindAge(t *testing.T) {
	for _, age := range []int{1, 2, 3, 50} {
		s := ofRules(t, 1, age)
		expectCycle(t, s, 0, counted(1, 9))
		for i := 1; i <= age; i++ {
			expectCycle(t, s, source.Stale, counted(1, 9))
			expectState(t, s, counted(1, 9), true, i)
		}
		expectCycle(t, s, source.Stale, counted(1, 9))
		expectState(t, s, api.Nav{}, false, age+1)
		expectCycle(t, s, 0, counted(1, 9))
		expectState(t, s, counted(1, 9), true, 0)
	}
}

func TestTheGreatestAge(t *testing.T) {
	s, never := ofRules(t, 1, 50), ofRules(t, 1, 1000000)
	expectCycle(t, never, 0, counted(1, 2))
	for range 1000000 {
		s.Cycle(nil)
		never.Cycle(nil)
	}
	expectState(t, s, api.Nav{}, false, 1000000)
	expectCycle(t, s, source.Missing)
	expectState(t, s, api.Nav{}, false, 1000000)
	// It is never older than that, and so never too old.
	expectState(t, never, counted(1, 2), true, 1000000)
	expectCycle(t, never, source.Missing)
	expectState(t, never, counted(1, 2), true, 1000000)
	expectCycle(t, never, 0, counted(2, -60000))
	expectState(t, never, counted(2, -60000), true, 0)
}

func TestAnyCycles(t *testing.T) {
	x := noise(88172645463325252)
	seen := map[source.Fault]int{}
	for range 400 {
		step, age := []int64{1, 5, 15, 40, 1 << 62, math.MaxInt64}[x.below(6)], int(1+x.below(5))
		s, m := ofRules(t, step, age), &model{step: step, most: age}
		for range 100 {
			var list []api.Nav
			for range x.below(4) {
				list = append(list, x.nav())
			}
			told, fault := m.cycle(list)
			seen[fault]++
			if got, gotFault := s.Cycle(list); got != told || gotFault != fault {
				t.Fatalf("Cycle of %v: %v, %d; want %v, %d", list, got, gotFault, told, fault)
			}
			m.expect(t, s)
			if x.below(20) == 0 {
				s.Reset()
				m.last, m.age = nil, 0
				m.expect(t, s)
			}
		}
	}
	// 1 comes alone; of the other ones all come, in all ways.
	if len(seen) != 17 {
		t.Errorf("%d kinds of faults were seen: %v", len(seen), seen)
	}
}

func TestWhatIsHandedInStays(t *testing.T) {
	s := ofRules(t, 5, 5)
	room := []api.Nav{counted(1, 1), counted(2, 2), counted(3, 3)}
	was := slices.Clone(room)
	expectCycle(t, s, 0, room[:2]...)
	if !slices.Equal(room, was) {
		t.Error(room)
	}
	room[1].VX = 99
	expectState(t, s, counted(2, 2), true, 0)
}

// P15.2

func TestReset(t *testing.T) {
	s := ofRules(t, 5, 5)
	s.Reset()
	expectState(t, s, api.Nav{}, false, 0)
	expectCycle(t, s, 0, counted(1, 1))
	s.Reset()
	expectState(t, s, api.Nav{}, false, 0)
	expectCycle(t, s, 0, counted(1, 999))
	expectCycle(t, s, source.Missing)
	expectCycle(t, s, source.Missing)
	s.Reset()
	expectState(t, s, api.Nav{}, false, 0)
	// By the same Step and Age as before.
	expectCycle(t, s, 0, counted(1, 0))
	expectCycle(t, s, source.Jumps, counted(2, 6))
	for range 4 {
		expectCycle(t, s, source.Missing)
	}
	expectState(t, s, counted(1, 0), true, 5)
	expectCycle(t, s, source.Missing)
	expectState(t, s, api.Nav{}, false, 6)
}

func TestOfNone(t *testing.T) {
	var s *source.Source
	expectCycle(t, s, source.Missing)
	expectCycle(t, s, source.Missing, counted(1, 1))
	expectCycle(t, s, source.Missing, api.Nav{Flags: 3})
	s.Reset()
	expectState(t, s, api.Nav{}, false, 0)
}

// P15.3

func TestAGoodSourceHasNoFault(t *testing.T) {
	x := noise(2463534242)
	for range 300 {
		step := []int64{1, 2, 50, maxVel}[x.below(4)]
		s := ofRules(t, step, int(1+x.below(3)))
		n := api.Nav{Count: int(x.below(65536)), VX: x.below(2*maxVel+1) - maxVel, VY: x.below(9), VZ: -maxVel}
		for range 200 {
			n.Count = (n.Count + 1 + int(x.below(65535))) % 65536
			n.X, n.Y, n.Z = x.below(2*maxPos+1)-maxPos, x.below(2*maxPos+1)-maxPos, []int64{maxPos, -maxPos, 0}[x.below(3)]
			for _, p := range []*int64{&n.VX, &n.VY, &n.VZ} {
				*p = max(-maxVel, min(maxVel, *p+[]int64{step, -step, 0, x.below(2*step+1) - step}[x.below(4)]))
			}
			expectCycle(t, s, 0, n)
			expectState(t, s, n, true, 0)
		}
	}
}
