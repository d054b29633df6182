package pair_test

import (
	"math"
	"math/big"
	"testing"

	"apogee/api"
	"apogee/pair"
)

// numbers are a nav's six numbers.
func numbers(n *api.Nav) []*int64 { return []*int64{&n.X, &n.Y, &n.Z, &n.VX, &n.VY, &n.VZ} }

// none are numbers that stand for no state.
var none = []int{-1, 5, 6, 100, -4, 1 << 32, 1<<32 + 1, math.MaxInt, math.MinInt}

// epsilons are errors at all edges.
var epsilons = []int64{
	0, 1, 2, 3, 9, 1024, 1 << 31, 1<<61 - 1, 1 << 61, 1<<61 + 1, 1 << 62, 1<<62 + 1, math.MaxInt64 - 1, math.MaxInt64,
	-1, -2, -1 << 31, -1 << 61, -1<<62 - 1, -1 << 62, math.MinInt64 + 1, math.MinInt64,
}

type noise uint64

func (x *noise) below(n int64) int64 {
	*x ^= *x << 13
	*x ^= *x >> 7
	*x ^= *x << 17
	return int64(*x>>1) % n
}

// isNear reckons by numbers of any size.
func isNear(a, b api.Nav, eps int64) bool {
	most := new(big.Int).Lsh(big.NewInt(eps), 1)
	if limit := new(big.Int).Lsh(big.NewInt(1), 62); most.Cmp(limit) > 0 {
		most = limit
	}
	others := numbers(&b)
	for i, p := range numbers(&a) {
		if new(big.Int).Sub(big.NewInt(*p), big.NewInt(*others[i])).CmpAbs(most) > 0 {
			return false
		}
	}
	return eps >= 0
}

func expectCompare(t *testing.T, a, b api.Nav, hasA, hasB bool, eps int64, want int) {
	t.Helper()
	if got := pair.Compare(a, b, hasA, hasB, eps); got != want {
		t.Fatalf("Compare of %v (%v) and %v (%v) by %d: %d, want %d", a, hasA, b, hasB, eps, got, want)
	}
	// Told the other way round it is the other one that is there alone.
	back := []int{0, 2, 1, 3, 4}[want]
	if got := pair.Compare(b, a, hasB, hasA, eps); got != back {
		t.Fatalf("Compare of %v (%v) and %v (%v) by %d: %d, want %d", b, hasB, a, hasA, eps, got, back)
	}
}

// expectBoth is of two that are there: Agree, or Apart.
func expectBoth(t *testing.T, a, b api.Nav, eps int64, agree bool) {
	t.Helper()
	want := pair.Apart
	if agree {
		want = pair.Agree
	}
	expectCompare(t, a, b, true, true, eps, want)
}

func TestStateNumbers(t *testing.T) {
	if got := [5]int{pair.None, pair.First, pair.Second, pair.Agree, pair.Apart}; got != [5]int{0, 1, 2, 3, 4} {
		t.Error(got)
	}
}

// P16.1

func TestCompareWhereNotBothAreThere(t *testing.T) {
	far := api.Nav{X: math.MaxInt64, VZ: math.MinInt64}
	for _, eps := range epsilons {
		for _, a := range []api.Nav{{}, {X: 5}, far} {
			for _, b := range []api.Nav{{}, {X: 5}, far} {
				expectCompare(t, a, b, false, false, eps, pair.None)
				expectCompare(t, a, b, true, false, eps, pair.First)
				expectCompare(t, a, b, false, true, eps, pair.Second)
			}
		}
	}
}

func TestCompareOfBoth(t *testing.T) {
	expectBoth(t, api.Nav{}, api.Nav{X: 5}, 3, true)
	expectBoth(t, api.Nav{}, api.Nav{X: 5}, 2, false)
	for _, eps := range []int64{0, 1, 2, 7, 1024, 1 << 31, 1<<61 - 1, 1 << 61} {
		for i := range 6 {
			for _, sign := range []int64{1, -1} {
				var a, b api.Nav
				*numbers(&b)[i] = sign * 2 * eps
				expectBoth(t, a, b, eps, true)
				*numbers(&b)[i] = sign * (2*eps + 1)
				expectBoth(t, a, b, eps, false)
			}
		}
	}
	// Neither counts nor flags are asked.
	expectBoth(t, api.Nav{Count: 1, Flags: 9}, api.Nav{Count: 60000}, 0, true)
	// All six may differ at once.
	expectBoth(t, api.Nav{X: 1, Y: 2, Z: 3, VX: 4, VY: 5, VZ: 6}, api.Nav{X: 3, Y: 0, Z: 5, VX: 2, VY: 7, VZ: 4}, 1, true)
}

func TestCompareByTheGreatestErrors(t *testing.T) {
	for _, eps := range []int64{1 << 61, 1<<61 + 1, 1 << 62, 1<<62 + 1, math.MaxInt64 - 1, math.MaxInt64} {
		expectBoth(t, api.Nav{}, api.Nav{}, eps, true)
		expectBoth(t, api.Nav{}, api.Nav{VY: 1 << 62}, eps, true)
		expectBoth(t, api.Nav{}, api.Nav{VY: -1 << 62}, eps, true)
		expectBoth(t, api.Nav{}, api.Nav{VY: 1<<62 + 1}, eps, false)
		expectBoth(t, api.Nav{}, api.Nav{VY: -1<<62 - 1}, eps, false)
		expectBoth(t, api.Nav{Z: math.MinInt64}, api.Nav{Z: math.MaxInt64}, eps, false)
		expectBoth(t, api.Nav{Z: -1 << 61}, api.Nav{Z: 1 << 61}, eps, true)
	}
	expectBoth(t, api.Nav{}, api.Nav{X: 1<<62 - 2}, 1<<61-1, true)
	expectBoth(t, api.Nav{}, api.Nav{X: 1<<62 - 1}, 1<<61-1, false)
}

func TestCompareByErrorsBelowZero(t *testing.T) {
	for _, eps := range []int64{-1, -2, -1 << 31, -1 << 61, -1<<61 - 1, -1 << 62, -1<<62 - 1, math.MinInt64 + 1, math.MinInt64} {
		for _, n := range []int64{0, 1, 1 << 62, math.MinInt64, math.MaxInt64} {
			expectBoth(t, api.Nav{}, api.Nav{Y: n}, eps, false)
		}
	}
}

func TestCompareOfAnyNavs(t *testing.T) {
	x := noise(88172645463325252)
	agree := 0
	for range 40000 {
		eps := epsilons[x.below(int64(len(epsilons)))]
		a, b := api.Nav{Count: int(x.below(9))}, api.Nav{Flags: int(x.below(9))}
		others := numbers(&b)
		for i, p := range numbers(&a) {
			*p = []int64{0, x.below(20), -x.below(1 << 40), math.MinInt64, math.MaxInt64, 1 << 61}[x.below(6)]
			// What is beyond 64 bits wraps round, and is some number, too.
			*others[i] = *p + []int64{0, 2 * eps, -2 * eps, 2*eps - 1, eps, 1}[x.below(6)]
			if x.below(9) == 0 {
				*others[i] += 1 - x.below(3)
			}
		}
		want := isNear(a, b, eps)
		if want {
			agree++
		}
		expectBoth(t, a, b, eps, want)
	}
	if agree < 2000 {
		t.Errorf("only %d agreed", agree)
	}
}

func TestHeight(t *testing.T) {
	heights := []int64{0, 1, -1, 77, 1 << 30, -1 << 31, math.MaxInt64, math.MinInt64}
	for _, z := range heights {
		for _, other := range heights {
			a, b := api.Nav{X: 5, Z: z, VZ: -3}, api.Nav{X: -5, Z: other, VZ: -4}
			for _, c := range []struct {
				hasA, hasB bool
				want       int64
				ok         bool
			}{{false, false, 0, false}, {true, false, z, true}, {false, true, other, true}, {true, true, min(z, other), true}} {
				if got, ok := pair.Height(a, b, c.hasA, c.hasB); got != c.want || ok != c.ok {
					t.Errorf("Height of %d (%v) and %d (%v): %d, %v", z, c.hasA, other, c.hasB, got, ok)
				}
			}
		}
	}
}

func TestKnown(t *testing.T) {
	for state, want := range []int{0, 1, 1, 2, 2} {
		if got := pair.Known(state); got != want {
			t.Errorf("Known of %d: %d", state, got)
		}
	}
	for _, n := range none {
		if got := pair.Known(n); got != 0 {
			t.Errorf("Known of %d: %d", n, got)
		}
	}
}

func TestFlip(t *testing.T) {
	for state, want := range []int{0, 2, 1, 3, 4} {
		if got := pair.Flip(state); got != want {
			t.Errorf("Flip of %d: %d", state, got)
		}
	}
	for _, n := range none {
		if got := pair.Flip(n); got != n {
			t.Errorf("Flip of %d: %d", n, got)
		}
	}
}

// P16.2

func TestTwoNearTheTruthAreNeverApart(t *testing.T) {
	x := noise(2463534242)
	for range 20000 {
		eps := []int64{0, 1, 5, 1024, 1 << 31}[x.below(5)]
		var a, b api.Nav
		others := numbers(&b)
		for i, p := range numbers(&a) {
			truth := x.below(1<<32) - 1<<31
			*p = truth + []int64{eps, -eps, 0, x.below(2*eps+1) - eps}[x.below(4)]
			*others[i] = truth + []int64{eps, -eps, 0, x.below(2*eps+1) - eps}[x.below(4)]
		}
		expectBoth(t, a, b, eps, true)
	}
}
