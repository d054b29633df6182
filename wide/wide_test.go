package wide_test

import (
	"math"
	"math/big"
	"testing"

	"apogee/wide"
)

var (
	least    = wide.Wide{Hi: math.MinInt64}
	greatest = wide.Wide{Hi: math.MaxInt64, Lo: math.MaxUint64}
)

// exact is the number that a Wide stands for, reckoned without the package's own calls.
func exact(w wide.Wide) *big.Int {
	n := new(big.Int).Lsh(big.NewInt(w.Hi), 64)
	return n.Add(n, new(big.Int).SetUint64(w.Lo))
}

// fits tells whether a number is one of 128 bits.
func fits(n *big.Int) bool {
	return n.Cmp(exact(least)) >= 0 && n.Cmp(exact(greatest)) <= 0
}

// numbers are the edges of 64 bits, and beside them numbers of all lengths and both signs.
func numbers() []int64 {
	list := []int64{
		0, 1, -1, 2, -2, 3, -3, 7, -7, 10, -10,
		math.MaxInt32, math.MinInt32, math.MaxUint32, -math.MaxUint32, 1 << 32, -1 << 32,
		1 << 62, -1 << 62, 1<<62 + 1, 1<<62 - 1,
		math.MaxInt64, math.MaxInt64 - 1, math.MinInt64, math.MinInt64 + 1,
	}
	x := uint64(88172645463325252)
	for shift := 0; shift < 64; shift += 2 {
		x = step(x)
		list = append(list, int64(x)>>shift)
	}
	return list
}

// wides are the edges of 64 and 128 bits, and beside them numbers of all lengths and both signs.
func wides() []wide.Wide {
	list := []wide.Wide{
		{}, {Lo: 1}, {Hi: -1, Lo: math.MaxUint64}, {Lo: 7}, {Hi: -1, Lo: 1<<64 - 7},
		{Lo: math.MaxInt64}, {Lo: 1 << 63}, {Lo: 1<<63 + 1}, {Lo: math.MaxUint64},
		{Hi: -1, Lo: 1 << 63}, {Hi: -1, Lo: 1<<63 - 1}, {Hi: -1, Lo: 1}, {Hi: -1},
		{Hi: 1}, {Hi: 1, Lo: 1}, {Hi: 1, Lo: math.MaxUint64}, {Hi: 2}, {Hi: -2}, {Hi: -2, Lo: math.MaxUint64},
		{Hi: 1 << 62}, {Hi: 1<<62 - 1, Lo: math.MaxUint64}, {Hi: -1 << 62}, {Hi: -1<<62 - 1, Lo: math.MaxUint64},
		greatest, {Hi: math.MaxInt64, Lo: math.MaxUint64 - 1}, {Hi: math.MaxInt64},
		least, {Hi: math.MinInt64, Lo: 1}, {Hi: math.MinInt64, Lo: math.MaxUint64},
	}
	x := uint64(2463534242)
	for shift := 0; shift < 64; shift += 3 {
		x = step(x)
		hi := int64(x) >> shift
		x = step(x)
		list = append(list, wide.Wide{Hi: hi, Lo: x}, wide.Wide{Hi: hi >> 63, Lo: x >> shift})
	}
	return list
}

func step(x uint64) uint64 {
	x ^= x << 13
	x ^= x >> 7
	return x ^ x<<17
}

// expect holds an answer that may be refused against the number that it should be.
func expect(t *testing.T, call string, w, v, got wide.Wide, ok bool, want *big.Int) {
	t.Helper()
	switch {
	case !fits(want) && (ok || got != wide.Wide{}):
		t.Errorf("%s of %v and %v: %v, %v; it is none of 128 bits", call, w, v, got, ok)
	case fits(want) && (!ok || exact(got).Cmp(want) != 0):
		t.Errorf("%s of %v and %v: %v, %v; want %v", call, w, v, got, ok, want)
	}
}

// P1.1

func TestOfIsTheNumber(t *testing.T) {
	for _, n := range numbers() {
		if got := wide.Of(n); exact(got).Cmp(big.NewInt(n)) != 0 {
			t.Errorf("Of(%d): %v", n, got)
		}
	}
	for n, want := range map[int64]wide.Wide{
		0:             {},
		-1:            {Hi: -1, Lo: math.MaxUint64},
		math.MaxInt64: {Lo: math.MaxInt64},
		math.MinInt64: {Hi: -1, Lo: 1 << 63},
	} {
		if got := wide.Of(n); got != want {
			t.Errorf("Of(%d): %v, want %v", n, got, want)
		}
	}
}

func TestMulIsTheProduct(t *testing.T) {
	for _, a := range numbers() {
		for _, b := range numbers() {
			want := new(big.Int).Mul(big.NewInt(a), big.NewInt(b))
			if got := wide.Mul(a, b); exact(got).Cmp(want) != 0 {
				t.Errorf("Mul(%d, %d): %v, want %v", a, b, got, want)
			}
		}
	}
	for _, c := range []struct {
		a, b int64
		want wide.Wide
	}{
		{1 << 62, 4, wide.Wide{Hi: 1}},
		{math.MinInt64, math.MinInt64, wide.Wide{Hi: 1 << 62}},
		{math.MinInt64, math.MaxInt64, wide.Wide{Hi: -1 << 62, Lo: 1 << 63}},
		{math.MinInt64, -1, wide.Wide{Lo: 1 << 63}},
		{math.MinInt64, 0, wide.Wide{}},
	} {
		if got := wide.Mul(c.a, c.b); got != c.want {
			t.Errorf("Mul(%d, %d): %v, want %v", c.a, c.b, got, c.want)
		}
	}
}

func TestAddAndSubAreTheNumberOrRefused(t *testing.T) {
	for _, w := range wides() {
		for _, v := range wides() {
			sum, ok := w.Add(v)
			expect(t, "Add", w, v, sum, ok, new(big.Int).Add(exact(w), exact(v)))
			rest, ok := w.Sub(v)
			expect(t, "Sub", w, v, rest, ok, new(big.Int).Sub(exact(w), exact(v)))
		}
	}
}

func TestAddAndSubAtTheEdges(t *testing.T) {
	one, minusOne := wide.Of(1), wide.Of(-1)
	for _, c := range []struct {
		name string
		call func(wide.Wide) (wide.Wide, bool)
		v    wide.Wide
		want wide.Wide
		ok   bool
	}{
		{"greatest + 1", greatest.Add, one, wide.Wide{}, false},
		{"greatest + -1", greatest.Add, minusOne, wide.Wide{Hi: math.MaxInt64, Lo: math.MaxUint64 - 1}, true},
		{"greatest + least", greatest.Add, least, minusOne, true},
		{"least + -1", least.Add, minusOne, wide.Wide{}, false},
		{"least + least", least.Add, least, wide.Wide{}, false},
		{"least + 0", least.Add, wide.Wide{}, least, true},
		{"least - 1", least.Sub, one, wide.Wide{}, false},
		{"least - least", least.Sub, least, wide.Wide{}, true},
		{"greatest - -1", greatest.Sub, minusOne, wide.Wide{}, false},
		{"-1 - least", minusOne.Sub, least, greatest, true},
		{"0 - least", wide.Wide{}.Sub, least, wide.Wide{}, false},
		{"0 - greatest", wide.Wide{}.Sub, greatest, wide.Wide{Hi: math.MinInt64, Lo: 1}, true},
	} {
		if got, ok := c.call(c.v); got != c.want || ok != c.ok {
			t.Errorf("%s: %v, %v; want %v, %v", c.name, got, ok, c.want, c.ok)
		}
	}
}

func TestNegIsTheNumberOrRefused(t *testing.T) {
	for _, w := range wides() {
		got, ok := w.Neg()
		expect(t, "Neg", w, wide.Wide{}, got, ok, new(big.Int).Neg(exact(w)))
	}
	if got, ok := least.Neg(); ok || got != (wide.Wide{}) {
		t.Errorf("Neg of the least: %v, %v", got, ok)
	}
	if got, ok := (wide.Wide{}).Neg(); !ok || got != (wide.Wide{}) {
		t.Errorf("Neg of 0: %v, %v", got, ok)
	}
	if got, ok := greatest.Neg(); !ok || got != (wide.Wide{Hi: math.MinInt64, Lo: 1}) {
		t.Errorf("Neg of the greatest: %v, %v", got, ok)
	}
}

func TestCmpAndSignTellTheOrder(t *testing.T) {
	for _, w := range wides() {
		if got, want := w.Sign(), exact(w).Sign(); got != want {
			t.Errorf("Sign of %v: %d, want %d", w, got, want)
		}
		for _, v := range wides() {
			if got, want := w.Cmp(v), exact(w).Cmp(exact(v)); got != want {
				t.Errorf("Cmp of %v and %v: %d, want %d", w, v, got, want)
			}
		}
	}
}

func TestIntIsTheNumberOrRefused(t *testing.T) {
	for _, w := range wides() {
		got, ok := w.Int()
		want := exact(w)
		if ok != want.IsInt64() || ok && got != want.Int64() || !ok && got != 0 {
			t.Errorf("Int of %v: %d, %v; want %v", w, got, ok, want)
		}
	}
	for _, n := range numbers() {
		if got, ok := wide.Of(n).Int(); !ok || got != n {
			t.Errorf("Int of %d: %d, %v", n, got, ok)
		}
	}
	for _, w := range []wide.Wide{{Lo: 1 << 63}, {Hi: -1, Lo: 1<<63 - 1}, {Hi: 1}, {Hi: -1}, least, greatest} {
		if got, ok := w.Int(); ok || got != 0 {
			t.Errorf("Int of %v: %d, %v", w, got, ok)
		}
	}
}

// P1.2

func TestDivRoundsDown(t *testing.T) {
	for _, w := range wides() {
		for _, d := range numbers() {
			if d <= 0 {
				continue
			}
			q, r, ok := w.Div(d)
			// Euclid's division is the one that rounds down, where the divisor is above 0.
			wantQ, wantR := new(big.Int).DivMod(exact(w), big.NewInt(d), new(big.Int))
			if !ok || exact(q).Cmp(wantQ) != 0 || r != wantR.Int64() {
				t.Errorf("%v by %d: %v, %d, %v; want %v, %v", w, d, q, r, ok, wantQ, wantR)
			}
		}
	}
}

func TestDivAtTheEdges(t *testing.T) {
	for _, c := range []struct {
		w wide.Wide
		d int64
		q wide.Wide
		r int64
	}{
		{wide.Of(7), 2, wide.Of(3), 1},
		{wide.Of(-7), 2, wide.Of(-4), 1},
		{wide.Of(-8), 2, wide.Of(-4), 0},
		{wide.Of(-1), math.MaxInt64, wide.Of(-1), math.MaxInt64 - 1},
		{wide.Wide{}, math.MaxInt64, wide.Wide{}, 0},
		{greatest, 1, greatest, 0},
		{least, 1, least, 0},
		{least, 2, wide.Wide{Hi: -1 << 62}, 0},
		{greatest, math.MaxInt64, wide.Wide{Hi: 1, Lo: 2}, 1},
		{least, math.MaxInt64, wide.Wide{Hi: -2, Lo: math.MaxUint64 - 2}, math.MaxInt64 - 2},
	} {
		if q, r, ok := c.w.Div(c.d); q != c.q || r != c.r || !ok {
			t.Errorf("%v by %d: %v, %d, %v; want %v, %d", c.w, c.d, q, r, ok, c.q, c.r)
		}
	}
}

func TestDivRefusesWhatIsNotAboveZero(t *testing.T) {
	for _, w := range wides() {
		for _, d := range []int64{0, -1, -2, math.MinInt64, math.MinInt64 + 1} {
			if q, r, ok := w.Div(d); ok || q != (wide.Wide{}) || r != 0 {
				t.Errorf("%v by %d: %v, %d, %v", w, d, q, r, ok)
			}
		}
	}
}

// P1.3

func TestSqrtRoundsDown(t *testing.T) {
	for _, w := range wides() {
		if w.Hi < 0 {
			continue
		}
		got, ok := w.Sqrt()
		if want := new(big.Int).Sqrt(exact(w)); !ok || new(big.Int).SetUint64(got).Cmp(want) != 0 {
			t.Errorf("Sqrt of %v: %d, %v; want %v", w, got, ok, want)
		}
	}
}

func TestSqrtAroundSquares(t *testing.T) {
	for _, n := range numbers() {
		if n <= 0 {
			continue
		}
		square := wide.Mul(n, n)
		below, _ := square.Sub(wide.Of(1))
		if got, ok := square.Sqrt(); !ok || got != uint64(n) {
			t.Errorf("Sqrt of the square of %d: %d, %v", n, got, ok)
		}
		if got, ok := below.Sqrt(); !ok || got != uint64(n)-1 {
			t.Errorf("Sqrt of the square of %d, less one: %d, %v", n, got, ok)
		}
	}
	for _, c := range []struct {
		w    wide.Wide
		want uint64
	}{
		{wide.Wide{}, 0},
		{wide.Of(1), 1},
		{wide.Of(2), 1},
		{wide.Of(3), 1},
		{wide.Of(4), 2},
		{wide.Wide{Lo: math.MaxUint64}, math.MaxUint32},
		{wide.Wide{Hi: 1}, 1 << 32},
		{wide.Wide{Hi: 1 << 62}, 1 << 63},
		{wide.Wide{Hi: 1<<62 - 1, Lo: math.MaxUint64}, 1<<63 - 1},
		{greatest, 13043817825332782212},
	} {
		if got, ok := c.w.Sqrt(); got != c.want || !ok {
			t.Errorf("Sqrt of %v: %d, %v; want %d", c.w, got, ok, c.want)
		}
	}
}

func TestSqrtRefusesWhatIsBelowZero(t *testing.T) {
	for _, w := range wides() {
		if w.Hi >= 0 {
			continue
		}
		if got, ok := w.Sqrt(); ok || got != 0 {
			t.Errorf("Sqrt of %v: %d, %v", w, got, ok)
		}
	}
}
