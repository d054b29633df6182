package count_test

import (
	"math"
	"sync"
	"testing"

	"apogee/api"
	"apogee/count"
)

const (
	least    = math.MinInt
	greatest = math.MaxInt
)

// at is a counter that has been set.
func at(most, n int) *count.Counter {
	c := count.New(most)
	c.Set(n)
	return c
}

// expect holds all that a counter tells of itself against what it should be.
func expect(t *testing.T, call string, c *count.Counter, value, most int) {
	t.Helper()
	if c.Value() != value || c.Most() != most || c.Full() != (value == most) {
		t.Errorf("%s: %d of %d, full %v; want %d of %d", call, c.Value(), c.Most(), c.Full(), value, most)
	}
}

// together lets many do something at the same time, and waits for all of them.
func together(many int, do func(i int)) {
	var all sync.WaitGroup
	start := make(chan struct{})
	for i := range many {
		all.Go(func() {
			<-start
			do(i)
		})
	}
	close(start)
	all.Wait()
}

// P3.1

func TestNewHoldsItsMost(t *testing.T) {
	for most, want := range map[int]int{
		2: 2, 50: 50, 1: 1, 0: 0, -1: 0, -1000000: 0, least: 0,
		999999: 999999, 1000000: 1000000, 1000001: 1000000, 1 << 31: 1000000, greatest: 1000000,
	} {
		expect(t, "New", count.New(most), 0, want)
	}
	if count.New(greatest).Most() != api.MaxCycles {
		t.Error("the greatest most isn't MaxCycles")
	}
}

func TestUpStaysAtItsMost(t *testing.T) {
	for _, c := range []struct {
		most int
		want []int
	}{
		{2, []int{1, 2, 2, 2}},
		{1, []int{1, 1}},
		{0, []int{0, 0}},
		{-5, []int{0, 0}},
		{4, []int{1, 2, 3, 4, 4}},
	} {
		counter := count.New(c.most)
		for i, want := range c.want {
			if got := counter.Up(); got != want {
				t.Errorf("most %d, Up %d: %d, want %d", c.most, i+1, got, want)
			}
			expect(t, "Up", counter, want, max(0, c.most))
		}
	}
}

func TestUpNeverGoesBeyondMaxCycles(t *testing.T) {
	c := count.New(greatest)
	for want := 1; want <= api.MaxCycles; want++ {
		if c.Full() {
			t.Fatalf("full at %d", want-1)
		}
		if got := c.Up(); got != want {
			t.Fatalf("Up: %d, want %d", got, want)
		}
	}
	for range 3 {
		if got := c.Up(); got != api.MaxCycles {
			t.Errorf("Up at the most: %d", got)
		}
	}
	expect(t, "Up", c, api.MaxCycles, api.MaxCycles)
}

func TestAddStaysAtItsMost(t *testing.T) {
	for _, c := range []struct{ most, from, n, want int }{
		{10, 0, 3, 3},
		{10, 3, 3, 6},
		{10, 3, 6, 9},
		{10, 3, 7, 10},
		{10, 3, 8, 10},
		{10, 10, 1, 10},
		{10, 3, 0, 3},
		{10, 3, -1, 3},
		{10, 3, -3, 3},
		{10, 3, -4, 3},
		{10, 10, -10, 10},
		{10, 3, least, 3},
		{10, 0, greatest, 10},
		{10, 3, greatest, 10},
		{10, 10, greatest, 10},
		{10, 3, greatest - 3, 10},
		{10, 3, 1<<32 + 1, 10},
		{0, 0, 5, 0},
		{0, 0, -5, 0},
		{greatest, 1, greatest, api.MaxCycles},
		{greatest, 1, 999998, 999999},
		{greatest, 1, 999999, api.MaxCycles},
		{greatest, 1, 1000000, api.MaxCycles},
	} {
		counter := at(c.most, c.from)
		if got := counter.Add(c.n); got != c.want {
			t.Errorf("most %d, at %d, Add of %d: %d, want %d", c.most, c.from, c.n, got, c.want)
		}
		expect(t, "Add", counter, c.want, min(c.most, api.MaxCycles))
	}
}

func TestSetHoldsBetweenZeroAndItsMost(t *testing.T) {
	for _, c := range []struct{ most, n, want int }{
		{10, 4, 4},
		{10, 0, 0},
		{10, 10, 10},
		{10, 11, 10},
		{10, -1, 0},
		{10, least, 0},
		{10, greatest, 10},
		{10, 1<<32 + 4, 10},
		{0, 1, 0},
		{0, -1, 0},
		{-3, 2, 0},
		{greatest, 999999, 999999},
		{greatest, 1000000, api.MaxCycles},
		{greatest, 1000001, api.MaxCycles},
	} {
		for _, from := range []int{0, 7, greatest} {
			counter := at(c.most, from)
			counter.Set(c.n)
			expect(t, "Set", counter, c.want, min(max(0, c.most), api.MaxCycles))
		}
	}
}

func TestResetIsZeroAndKeepsItsMost(t *testing.T) {
	for _, from := range []int{0, 1, 4, 5} {
		c := at(5, from)
		c.Reset()
		expect(t, "Reset", c, 0, 5)
		if got := c.Up(); got != 1 {
			t.Errorf("Up behind Reset: %d", got)
		}
	}
}

func TestCountersAreTheirOwn(t *testing.T) {
	a, b := count.New(3), count.New(3)
	a.Add(2)
	expect(t, "the one that was told", a, 2, 3)
	expect(t, "the other one", b, 0, 3)
	b.Up()
	a.Reset()
	expect(t, "the one that was told", a, 0, 3)
	expect(t, "the other one", b, 1, 3)
}

func TestNilIsNothing(t *testing.T) {
	var c *count.Counter
	if got := c.Up(); got != 0 {
		t.Errorf("Up: %d", got)
	}
	for _, n := range []int{least, -1, 0, 1, greatest} {
		if got := c.Add(n); got != 0 {
			t.Errorf("Add of %d: %d", n, got)
		}
		c.Set(n)
	}
	c.Reset()
	if c.Value() != 0 || !c.Full() || c.Most() != 0 {
		t.Errorf("%d, %v, %d; want 0, true, 0", c.Value(), c.Full(), c.Most())
	}
}

// TestAnyCallsOneBehindTheOther holds a counter against a number that is reckoned beside it, where nothing can be too great.
func TestAnyCallsOneBehindTheOther(t *testing.T) {
	numbers := []int{least, -7, -1, 0, 1, 2, 3, 5, 1000, 999999, 1000000, 1000001, greatest}
	x := uint64(88172645463325252)
	for _, most := range []int{0, 1, 2, 7, 50, 4096, api.MaxCycles} {
		c, value := count.New(most), 0
		for range 2000 {
			x ^= x << 13
			x ^= x >> 7
			x ^= x << 17
			n := numbers[x>>8%uint64(len(numbers))]
			switch x % 16 {
			case 0:
				c.Reset()
				value = 0
			case 1:
				c.Set(n)
				value = min(max(n, 0), most)
			case 2, 3, 4:
				value = min(value+min(max(n, 0), api.MaxCycles), most)
				if got := c.Add(n); got != value {
					t.Fatalf("most %d, Add of %d: %d, want %d", most, n, got, value)
				}
			default:
				value = min(value+1, most)
				if got := c.Up(); got != value {
					t.Fatalf("most %d, Up: %d, want %d", most, got, value)
				}
			}
			expect(t, "any call", c, value, most)
		}
	}
}

// P3.2

const (
	many = 8
	each = 50000
)

func TestNoUpIsLost(t *testing.T) {
	for range 5 {
		c := count.New(api.MaxCycles)
		together(many, func(int) {
			for range each {
				c.Up()
			}
		})
		expect(t, "Ups together", c, many*each, api.MaxCycles)
	}
}

func TestUpsTogetherStayAtTheMost(t *testing.T) {
	for _, most := range []int{0, 1, 1000, many*each - 1, many * each, many*each + 1} {
		c := count.New(most)
		together(many, func(int) {
			for range each {
				c.Up()
			}
		})
		expect(t, "Ups together", c, min(many*each, most), most)
	}
}

// TestUpsTogetherTellEachNumberOnce: what an Up tells is the number that it made, whatever the others do meanwhile.
func TestUpsTogetherTellEachNumberOnce(t *testing.T) {
	const most = many*each - 1000
	c := count.New(most)
	var told [many][]int
	together(many, func(i int) {
		list := make([]int, each)
		for k := range list {
			list[k] = c.Up()
		}
		told[i] = list
	})
	var times [most + 1]int
	for i, list := range told {
		for k, n := range list {
			if n < 1 || n > most {
				t.Fatalf("Up: %d", n)
			}
			if k > 0 && n <= list[k-1] && n < most {
				t.Fatalf("of %d: %d behind %d", i, n, list[k-1])
			}
			times[n]++
		}
	}
	for n := 1; n < most; n++ {
		if times[n] != 1 {
			t.Fatalf("%d was told %d times", n, times[n])
		}
	}
	if want := many*each - most + 1; times[most] != want {
		t.Errorf("the most was told %d times, want %d", times[most], want)
	}
}

func TestUpsAndAddsTogether(t *testing.T) {
	c := count.New(api.MaxCycles)
	together(many, func(i int) {
		for range each / 10 {
			if i%2 == 0 {
				c.Up()
			} else {
				c.Add(i)
			}
			c.Add(-i)
			c.Add(0)
		}
	})
	expect(t, "Ups and Adds together", c, each/10*(4+1+3+5+7), api.MaxCycles)
}

// TestNobodySeesMoreThanTheMost: also while others are adding, the number neither falls nor is above its most.
func TestNobodySeesMoreThanTheMost(t *testing.T) {
	const most = each
	c := count.New(most)
	together(many, func(i int) {
		last := 0
		for range each {
			got := c.Value()
			if i%2 == 0 {
				got = c.Add(3)
			}
			if got < last || got > most {
				t.Errorf("%d behind %d, most %d", got, last, most)
				return
			}
			last = got
		}
	})
	expect(t, "Adds together", c, most, most)
}

func TestSetsAndResetsTogetherStayBetween(t *testing.T) {
	const most = 100
	c := count.New(most)
	together(many, func(i int) {
		for k := range each {
			up := c.Up()
			if up < 1 || up > most {
				t.Errorf("Up: %d", up)
				return
			}
			switch k % 64 {
			case i:
				c.Reset()
			case i + 8:
				c.Set(greatest)
			case i + 16:
				c.Set(least)
			}
			if n := c.Value(); n < 0 || n > most {
				t.Errorf("Value: %d", n)
				return
			}
		}
	})
	c.Reset()
	expect(t, "Reset", c, 0, most)
}
