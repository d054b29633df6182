package seqr_test

import (
	"math"
	"testing"

	"apogee/api"
	"apogee/peer"
	"apogee/seqr"
)

const (
	safe  = api.SSafe
	armed = api.SArmed
	fired = api.SFired
)

// What is wished.
const (
	toArm    = 1
	toBeSafe = 2
)

func expectIs(t *testing.T, s *seqr.Seq, state, wish int) {
	t.Helper()
	if s.State() != state || s.Wish() != wish {
		t.Fatalf("State %d, Wish %d; want %d, %d", s.State(), s.Wish(), state, wish)
	}
}

func expectCycle(t *testing.T, s *seqr.Seq, in seqr.Input, state, wish int) {
	t.Helper()
	before := [2]int{s.State(), s.Wish()}
	if got := s.Cycle(in); got != state || s.State() != state || s.Wish() != wish {
		t.Fatalf("from %v by %+v: %d, State %d, Wish %d; want %d, %d", before, in, got, s.State(), s.Wish(), state, wish)
	}
}

// being is a sequencer with a state and a wish that this state can have.
func being(t *testing.T, safing, state, wish int) *seqr.Seq {
	t.Helper()
	s := seqr.New(safing, false)
	if !s.Set(state) {
		t.Fatalf("Set of %d", state)
	}
	switch {
	case state == safe && wish == toArm:
		expectCycle(t, s, seqr.Input{Command: api.CArm}, safe, toArm)
	case state == armed && wish == toBeSafe:
		expectCycle(t, s, seqr.Input{Command: api.CSafe, Flight: true, Phase: safing}, armed, toBeSafe)
	}
	expectIs(t, s, state, wish)
	return s
}

// next is what the chapter says of a state and its wishes.
func next(safing, state, wish int, in seqr.Input) (int, int) {
	wishesArm, wishesSafe := wish == toArm, wish == toBeSafe
	if in.Command == api.CArm {
		wishesArm, wishesSafe = true, false
	}
	if in.Command == api.CSafe {
		wishesArm, wishesSafe = false, true
	}
	forArming, forBeingSafe := false, false
	if in.Heard {
		forArming = in.Peer.Wish%2 == 1 || in.Peer.State == armed || in.Peer.State == fired
		forBeingSafe = in.Peer.Wish/2%2 == 1 || in.Peer.State == safe
	}
	locks := in.Flight && in.Phase < safing
	switch {
	case state == safe && wishesArm && forArming:
		return armed, 0
	case state == safe && wishesArm:
		return safe, toArm
	case state == safe:
		return safe, 0
	case state == fired:
		return fired, 0
	case in.Fires || in.Command == api.CTerminate:
		return fired, 0
	case wishesSafe && !locks && forBeingSafe:
		return safe, 0
	case wishesSafe && !locks:
		return armed, toBeSafe
	}
	return armed, 0
}

// inputs calls do with all that may be heard.
func inputs(do func(in seqr.Input)) {
	commands := []int{api.CNone, api.CArm, api.CSafe, api.CTerminate, -1, 4, 5, 1<<32 + 1}
	for _, command := range commands {
		for wish := range 16 {
			for state := range 4 {
				for phase := range 4 {
					for bits := range 8 {
						word := peer.Word{Cycle: 7, Phase: 3 - phase, State: state, Wish: wish}
						do(seqr.Input{Command: command, Peer: word, Phase: phase, Heard: bits&1 > 0, Flight: bits&2 > 0, Fires: bits&4 > 0})
					}
				}
			}
		}
	}
}

type noise uint64

func (x *noise) below(n int) int {
	*x ^= *x << 13
	*x ^= *x >> 7
	*x ^= *x << 17
	return int(*x>>33) % n
}

func (x *noise) input() seqr.Input {
	return seqr.Input{
		Command: x.below(4), Heard: x.below(3) > 0, Peer: peer.Word{State: x.below(3), Wish: x.below(16), Phase: x.below(4)},
		Flight: x.below(2) > 0, Fires: x.below(9) == 0, Phase: x.below(4),
	}
}

// P22.1

func TestNew(t *testing.T) {
	for _, safing := range []int{math.MinInt, -1, 0, 1, 4, math.MaxInt} {
		for _, locked := range []bool{false, true} {
			s := seqr.New(safing, locked)
			expectIs(t, s, safe, 0)
			if s.Locked() != locked {
				t.Errorf("Locked: %v", s.Locked())
			}
		}
	}
}

func TestArmingAndFiring(t *testing.T) {
	s := seqr.New(1, false)
	expectCycle(t, s, seqr.Input{Command: api.CArm, Heard: true, Peer: peer.Word{Wish: toArm}}, armed, 0)
	expectCycle(t, s, seqr.Input{Fires: true}, fired, 0)
	s = seqr.New(1, false)
	expectCycle(t, s, seqr.Input{Command: api.CArm}, safe, toArm)
	expectCycle(t, s, seqr.Input{}, safe, toArm)
	// A word that wasn't heard says nothing.
	expectCycle(t, s, seqr.Input{Peer: peer.Word{Wish: toArm, State: armed}}, safe, toArm)
	expectCycle(t, s, seqr.Input{Heard: true, Peer: peer.Word{Wish: 14}}, safe, toArm)
	expectCycle(t, s, seqr.Input{Heard: true, Peer: peer.Word{State: fired}}, armed, 0)
	expectCycle(t, s, seqr.Input{Command: api.CTerminate}, fired, 0)
	expectCycle(t, s, seqr.Input{Command: api.CSafe, Heard: true}, fired, 0)
}

func TestBeingSafe(t *testing.T) {
	s := being(t, 2, armed, 0)
	expectCycle(t, s, seqr.Input{Command: api.CSafe}, armed, toBeSafe)
	expectCycle(t, s, seqr.Input{Heard: true, Peer: peer.Word{State: armed}}, armed, toBeSafe)
	// A word that wasn't heard is no safe one, though its state stands as 0.
	expectCycle(t, s, seqr.Input{}, armed, toBeSafe)
	expectCycle(t, s, seqr.Input{Heard: true, Peer: peer.Word{State: armed, Wish: toBeSafe}}, safe, 0)
	// In flight, ahead of the phase 2, what was wished is forgotten.
	s = being(t, 2, armed, toBeSafe)
	expectCycle(t, s, seqr.Input{Flight: true, Phase: 1, Heard: true}, armed, 0)
	expectCycle(t, s, seqr.Input{Flight: true, Phase: 2, Heard: true}, armed, 0)
	expectCycle(t, s, seqr.Input{Command: api.CSafe, Flight: true, Phase: 2, Heard: true}, safe, 0)
}

func TestACommandTakesTheOtherWishAway(t *testing.T) {
	s := being(t, 0, safe, toArm)
	expectCycle(t, s, seqr.Input{Command: api.CSafe}, safe, 0)
	s = being(t, 0, armed, toBeSafe)
	expectCycle(t, s, seqr.Input{Command: api.CArm}, armed, 0)
	// CTerminate does nothing while it is safe, and leaves what it wishes.
	s = being(t, 0, safe, toArm)
	expectCycle(t, s, seqr.Input{Command: api.CTerminate, Fires: true}, safe, toArm)
}

func TestEachInputInEachState(t *testing.T) {
	for _, is := range [][2]int{{safe, 0}, {safe, toArm}, {armed, 0}, {armed, toBeSafe}, {fired, 0}} {
		for _, safing := range []int{0, 2, 4} {
			inputs(func(in seqr.Input) {
				s := being(t, safing, is[0], is[1])
				state, wish := next(safing, is[0], is[1], in)
				expectCycle(t, s, in, state, wish)
			})
		}
	}
}

func TestAnyCycles(t *testing.T) {
	x := noise(88172645463325252)
	for range 2000 {
		safing := x.below(5)
		s := seqr.New(safing, false)
		for range 30 {
			in := x.input()
			state, wish := next(safing, s.State(), s.Wish(), in)
			expectCycle(t, s, in, state, wish)
		}
	}
}

func TestSet(t *testing.T) {
	for _, from := range [][2]int{{safe, 0}, {safe, toArm}, {armed, 0}, {armed, toBeSafe}, {fired, 0}} {
		for _, state := range []int{safe, armed, fired} {
			s := being(t, 3, from[0], from[1])
			if !s.Set(state) {
				t.Errorf("Set of %d", state)
			}
			expectIs(t, s, state, 0)
			// It wishes nothing any more, and so goes nowhere by itself.
			expectCycle(t, s, seqr.Input{Heard: true, Peer: peer.Word{Wish: 3, State: armed}}, state, 0)
		}
		for _, state := range []int{-1, 3, 4, 1 << 32, 1<<32 + 1, math.MaxInt, math.MinInt} {
			s := being(t, 3, from[0], from[1])
			if s.Set(state) {
				t.Errorf("Set of %d", state)
			}
			expectIs(t, s, from[0], from[1])
		}
	}
}

func TestLocked(t *testing.T) {
	s := seqr.New(0, true)
	inputs(func(in seqr.Input) { expectCycle(t, s, in, safe, 0) })
	for state := -1; state < 5; state++ {
		if s.Set(state) {
			t.Errorf("Set of %d", state)
		}
		expectIs(t, s, safe, 0)
	}
}

func TestOfNone(t *testing.T) {
	var s *seqr.Seq
	expectCycle(t, s, seqr.Input{Command: api.CArm, Heard: true, Peer: peer.Word{Wish: toArm}}, safe, 0)
	if !s.Locked() || s.Set(safe) || s.Set(armed) {
		t.Error("of none")
	}
}

// P22.2

func TestNeverOnThePeersWordAlone(t *testing.T) {
	x := noise(2463534242)
	changes := map[[2]int]int{}
	for range 3000 {
		safing := x.below(5)
		s := seqr.New(safing, false)
		s.Set(x.below(2))
		wasTold := map[int]bool{}
		for range 40 {
			in := x.input()
			if x.below(2) == 0 {
				in.Command = api.CNone
			}
			before := s.State()
			wasTold[in.Command] = true
			after := s.Cycle(in)
			changes[[2]int{before, after}]++
			switch {
			case before == after:
				continue
			case after == armed && (before != safe || !wasTold[api.CArm]):
				t.Fatalf("armed from %d by %+v, told %v", before, in, wasTold)
			case after == safe && (before != armed || !wasTold[api.CSafe] || in.Flight && in.Phase < safing):
				t.Fatalf("safe from %d by %+v, told %v", before, in, wasTold)
			case after == fired && (before != armed || !in.Fires && in.Command != api.CTerminate):
				t.Fatalf("fired from %d by %+v", before, in)
			case !in.Heard && after != fired:
				t.Fatalf("from %d to %d without a word", before, after)
			}
			wasTold = map[int]bool{}
		}
	}
	for _, change := range [][2]int{{safe, armed}, {armed, safe}, {armed, fired}, {fired, fired}} {
		if changes[change] < 100 {
			t.Errorf("from %d to %d only %d times", change[0], change[1], changes[change])
		}
	}
}
