package tally_test

import (
	"math"
	"testing"

	"apogee/api"
	"apogee/tally"
)

const (
	ok      = api.VOk
	edge    = api.VEdge
	violate = api.VViolate
	invalid = api.VInvalid
)

// unheard are what no source that is heard says: invalid, and what is no verdict.
var unheard = []int{invalid, 0, -1, 5, 100, -3, 1<<32 + 3, math.MaxInt, math.MinInt}

func limits(n, d, green int) api.Rules { return api.Rules{N: n, D: d, Green: green} }

func made(t *testing.T, n, d, green int) *tally.Tally {
	t.Helper()
	x := tally.New(limits(n, d, green))
	if x == nil {
		t.Fatalf("none with the limits %d, %d, %d", n, d, green)
	}
	expectCounts(t, x, 0, 0, 0)
	expectWhy(t, x, 0)
	return x
}

func expectCounts(t *testing.T, x *tally.Tally, violations, disputes, invalids int) {
	t.Helper()
	if a, b, c := x.Counts(); a != violations || b != disputes || c != invalids {
		t.Fatalf("Counts: %d, %d, %d; want %d, %d, %d", a, b, c, violations, disputes, invalids)
	}
}

func expectWhy(t *testing.T, x *tally.Tally, want int) {
	t.Helper()
	if got := x.Why(); got != want {
		t.Fatalf("Why: %d, want %d", got, want)
	}
	if x.Fires() != (want != 0) {
		t.Fatalf("Fires: %v, but Why is %d", x.Fires(), want)
	}
}

// model has the counts, and their limits.
type model struct{ counts, most [3]int }

func (m *model) up(i int) { m.counts[i] = min(m.counts[i]+1, m.most[i]) }

func (m *model) cycle(first, second int) {
	heard, against := 0, 0
	for _, v := range []int{first, second} {
		if v == ok || v == edge || v == violate {
			heard++
		}
		if v == violate {
			against++
		}
	}
	if heard == 0 {
		m.up(2)
		return
	}
	m.counts[2] = 0
	if against == 0 {
		m.counts[0], m.counts[1] = 0, 0
	} else if against < heard {
		m.up(1)
	} else {
		m.up(0)
	}
}

func (m *model) expect(t *testing.T, x *tally.Tally) {
	t.Helper()
	why := 0
	for i, n := range m.counts {
		if n == m.most[i] {
			why += 1 << i
		}
	}
	expectCounts(t, x, m.counts[0], m.counts[1], m.counts[2])
	expectWhy(t, x, why)
}

type noise uint64

func (x *noise) below(n int) int {
	*x ^= *x << 13
	*x ^= *x >> 7
	*x ^= *x << 17
	return int(*x>>33) % n
}

// P20.1

func TestNew(t *testing.T) {
	numbers := []int{math.MinInt, -1, 0, 1, 2, 50, 51, 1000000}
	for _, n := range numbers {
		for _, d := range numbers {
			for _, green := range numbers {
				x := tally.New(limits(n, d, green))
				if (x != nil) != (n >= 1 && d >= 1 && green >= 1) {
					t.Errorf("%d, %d, %d: %v", n, d, green, x)
				}
			}
		}
	}
	// No other number is asked.
	if tally.New(api.Rules{N: 1, D: 1, Green: 1, Eps: -1, Age: -1}) == nil {
		t.Error("none")
	}
}

func TestEachPairOfVerdicts(t *testing.T) {
	heard := []int{ok, edge, violate}
	for _, first := range heard {
		for _, second := range heard {
			x := made(t, 9, 9, 9)
			x.Set(3, 4, 5)
			x.Cycle(first, second)
			switch {
			case first != violate && second != violate:
				expectCounts(t, x, 0, 0, 0)
			case first == violate && second == violate:
				expectCounts(t, x, 4, 4, 0)
			default:
				expectCounts(t, x, 3, 5, 0)
			}
		}
		for _, other := range unheard {
			for _, pair := range [][2]int{{first, other}, {other, first}} {
				x := made(t, 9, 9, 9)
				x.Set(3, 4, 5)
				x.Cycle(pair[0], pair[1])
				if first == violate {
					expectCounts(t, x, 4, 4, 0)
				} else {
					expectCounts(t, x, 0, 0, 0)
				}
			}
		}
	}
	for _, first := range unheard {
		for _, second := range unheard {
			x := made(t, 9, 9, 9)
			x.Set(3, 4, 5)
			x.Cycle(first, second)
			expectCounts(t, x, 3, 4, 6)
		}
	}
}

func TestAloneAndAgainst(t *testing.T) {
	x := made(t, 2, 3, 9)
	x.Cycle(violate, invalid)
	expectCounts(t, x, 1, 0, 0)
	expectWhy(t, x, 0)
	x.Cycle(violate, ok)
	expectCounts(t, x, 1, 1, 0)
	expectWhy(t, x, 0)
	x.Cycle(violate, invalid)
	expectCounts(t, x, 2, 1, 0)
	expectWhy(t, x, 1)
}

func TestLimits(t *testing.T) {
	for _, n := range []int{1, 2, 3, 50} {
		for _, d := range []int{1, 2, 50} {
			for _, green := range []int{1, 4, 50} {
				x, m := made(t, n, d, green), &model{most: [3]int{n, d, green}}
				for _, pair := range [][2]int{{violate, violate}, {edge, violate}, {invalid, invalid}, {ok, ok}, {0, 9}, {violate, 0}, {violate, ok}} {
					for range 53 {
						x.Cycle(pair[0], pair[1])
						m.cycle(pair[0], pair[1])
						m.expect(t, x)
					}
				}
			}
		}
	}
}

func TestSet(t *testing.T) {
	numbers := map[int]int{math.MinInt: 0, -1: 0, 0: 0, 1: 1, 2: 2, 3: 3, 4: 3, 5: 3, 1 << 32: 3, 1<<32 + 1: 3, math.MaxInt: 3}
	for n, want := range numbers {
		x := made(t, 3, 9, 9)
		x.Set(n, 1, 2)
		expectCounts(t, x, want, 1, 2)
		x = made(t, 9, 3, 9)
		x.Set(1, n, 2)
		expectCounts(t, x, 1, want, 2)
		x = made(t, 9, 9, 3)
		x.Set(1, 2, n)
		expectCounts(t, x, 1, 2, want)
	}
	// It goes on from there.
	x := made(t, 5, 5, 5)
	x.Set(4, 3, 2)
	x.Cycle(violate, violate)
	expectCounts(t, x, 5, 3, 0)
	expectWhy(t, x, 1)
	x.Set(0, 0, 0)
	expectCounts(t, x, 0, 0, 0)
	expectWhy(t, x, 0)
}

func TestWhy(t *testing.T) {
	for why := range 8 {
		x := made(t, 2, 3, 4)
		x.Set(1+why%2, 2+why/2%2, 3+why/4)
		expectWhy(t, x, why)
	}
}

func TestOfNone(t *testing.T) {
	var x *tally.Tally
	x.Cycle(violate, violate)
	x.Cycle(ok, ok)
	x.Set(1, 2, 3)
	expectCounts(t, x, 0, 0, 0)
	if !x.Fires() || x.Why() != 0 {
		t.Error(x.Fires(), x.Why())
	}
}

func TestAnyCycles(t *testing.T) {
	x := noise(88172645463325252)
	verdicts := append([]int{ok, edge, violate, violate, violate, invalid}, unheard...)
	for range 2000 {
		most := [3]int{1 + x.below(5), 1 + x.below(5), 1 + x.below(5)}
		got, m := made(t, most[0], most[1], most[2]), &model{most: most}
		for range 30 {
			first, second := verdicts[x.below(6)], verdicts[x.below(len(verdicts))]
			if x.below(2) == 0 {
				first, second = second, first
			}
			got.Cycle(first, second)
			m.cycle(first, second)
			m.expect(t, got)
		}
	}
}

// P20.2

// TestFiresWithinTheWindow goes through all that the other source may say, and which one it is, in as many cycles as may be needed.
func TestFiresWithinTheWindow(t *testing.T) {
	pairs := [][2]int{{violate, violate}, {violate, ok}, {edge, violate}, {violate, invalid}, {0, violate}}
	for n := 1; n <= 3; n++ {
		for d := 1; d <= 3; d++ {
			cycles, all := n+d-1, 1
			for range cycles {
				all *= len(pairs)
			}
			for which := range all {
				x := made(t, n, d, 1)
				for range cycles {
					pair := pairs[which%len(pairs)]
					which /= len(pairs)
					x.Cycle(pair[0], pair[1])
				}
				if !x.Fires() {
					t.Fatalf("N %d, D %d: it doesn't fire within %d cycles", n, d, cycles)
				}
			}
		}
	}
}

// TestFiresWithinTheWindowFromAnyCounts: whatever was counted before.
func TestFiresWithinTheWindowFromAnyCounts(t *testing.T) {
	x := noise(2463534242)
	for range 5000 {
		n, d, green := 1+x.below(50), 1+x.below(50), 1+x.below(50)
		got := made(t, n, d, green)
		got.Set(x.below(n), x.below(d), x.below(green))
		for range n + d - 1 {
			pair := [2]int{violate, x.below(6)}
			at := x.below(2)
			got.Cycle(pair[at], pair[1-at])
		}
		if !got.Fires() {
			t.Fatalf("N %d, D %d: it doesn't fire", n, d)
		}
	}
}

func TestNeverFiresWhereNothingIsAgainst(t *testing.T) {
	x := noise(362436069)
	for range 500 {
		green := 1 + x.below(6)
		got := made(t, 1, 1, green)
		silent := 0
		for range 100 {
			first, second := unheard[x.below(len(unheard))], unheard[x.below(len(unheard))]
			if silent == green-1 || x.below(3) == 0 {
				first = ok + x.below(2)
				if x.below(2) == 0 {
					first, second = second, first
				}
				silent = 0
			} else {
				silent++
			}
			got.Cycle(first, second)
			if got.Fires() {
				t.Fatalf("Green %d: it fires, by %d", green, got.Why())
			}
		}
	}
}
