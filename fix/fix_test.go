package fix_test

import (
	"math"
	"math/big"
	"slices"
	"testing"

	"apogee/fix"
)

const (
	least    = math.MinInt64
	greatest = math.MaxInt64
)

// numbers are the edges of 32 and 64 bits, and beside them numbers of all lengths and both signs.
func numbers() []int64 {
	list := []int64{
		0, 1, -1, 2, -2, 3, -3, 4, 5, -5, 7, -7, 8, 9, 10, -10, 99, 100,
		math.MaxInt32, math.MinInt32, math.MaxUint32, -math.MaxUint32, 1 << 32, -1 << 32,
		3037000499, -3037000499, 3037000500, -3037000500,
		1 << 62, -1 << 62, 1<<62 + 1, 1<<62 - 1, -1<<62 - 1,
		greatest, greatest - 1, least, least + 1, least + 2,
	}
	x := uint64(88172645463325252)
	for shift := 0; shift < 64; shift += 2 {
		x = step(x)
		list = append(list, int64(x)>>shift)
	}
	return list
}

// factors are fewer of them, for calls of three numbers.
func factors() []int64 {
	list := []int64{
		0, 1, -1, 2, -2, 3, -3, 7, -7, 10, -9,
		1 << 32, -1 << 32, 1<<32 + 1, 3037000499, -3037000500, 1 << 62, -1<<62 - 1,
		greatest, greatest - 1, least, least + 1,
	}
	x := uint64(2463534242)
	for shift := 0; shift < 64; shift += 7 {
		x = step(x)
		list = append(list, int64(x)>>shift)
	}
	return list
}

func step(x uint64) uint64 {
	x ^= x << 13
	x ^= x >> 7
	return x ^ x<<17
}

func exact(n int64) *big.Int { return big.NewInt(n) }

// expect holds an answer against the number that it should be: refused just if that has more than 64 bits.
func expect(t *testing.T, call string, arguments []int64, got int64, ok bool, want *big.Int) {
	t.Helper()
	switch {
	case !want.IsInt64() && (ok || got != 0):
		t.Errorf("%s of %v: %d, %v; it is none of 64 bits", call, arguments, got, ok)
	case want.IsInt64() && (!ok || got != want.Int64()):
		t.Errorf("%s of %v: %d, %v; want %v", call, arguments, got, ok, want)
	}
}

// answer is a number, and whether it is right.
type answer struct {
	n  int64
	ok bool
}

func answered(n int64, ok bool) answer { return answer{n, ok} }

var refused = answer{}

// rounded is the quotient by the mode, reckoned without the package's own calls: c is above 0.
func rounded(product, c *big.Int, mode int) *big.Int {
	switch mode {
	case 0:
		return new(big.Int).Div(product, c)
	case 1:
		q := new(big.Int).Div(new(big.Int).Neg(product), c)
		return q.Neg(q)
	}
	// Without its sign, a half more and rounded down is the nearest one, and of two the further one.
	double := new(big.Int).Lsh(new(big.Int).Abs(product), 1)
	q := new(big.Int).Div(double.Add(double, c), new(big.Int).Lsh(c, 1))
	if product.Sign() < 0 {
		q.Neg(q)
	}
	return q
}

// P2.1, P2.2

func TestSumsDifferencesAndProductsAreTheNumberOrRefused(t *testing.T) {
	for _, a := range numbers() {
		for _, b := range numbers() {
			pair := []int64{a, b}
			n, ok := fix.Add(a, b)
			expect(t, "Add", pair, n, ok, new(big.Int).Add(exact(a), exact(b)))
			n, ok = fix.Sub(a, b)
			expect(t, "Sub", pair, n, ok, new(big.Int).Sub(exact(a), exact(b)))
			n, ok = fix.Mul(a, b)
			expect(t, "Mul", pair, n, ok, new(big.Int).Mul(exact(a), exact(b)))
		}
	}
}

func TestSumsDifferencesAndProductsAtTheEdges(t *testing.T) {
	for _, c := range []struct {
		name string
		call func(a, b int64) (int64, bool)
		a, b int64
		want answer
	}{
		{"Add", fix.Add, 2, 3, answer{5, true}},
		{"Add", fix.Add, greatest, 0, answer{greatest, true}},
		{"Add", fix.Add, greatest, 1, refused},
		{"Add", fix.Add, greatest, least, answer{-1, true}},
		{"Add", fix.Add, least, -1, refused},
		{"Add", fix.Add, least, least, refused},
		{"Add", fix.Add, 1 << 62, 1 << 62, refused},
		{"Add", fix.Add, -1 << 62, -1 << 62, answer{least, true}},
		{"Sub", fix.Sub, 2, 3, answer{-1, true}},
		{"Sub", fix.Sub, 0, least, refused},
		{"Sub", fix.Sub, -1, least, answer{greatest, true}},
		{"Sub", fix.Sub, least, 1, refused},
		{"Sub", fix.Sub, least, least, answer{0, true}},
		{"Sub", fix.Sub, greatest, -1, refused},
		{"Sub", fix.Sub, 0, greatest, answer{least + 1, true}},
		{"Mul", fix.Mul, -6, 7, answer{-42, true}},
		{"Mul", fix.Mul, least, -1, refused},
		{"Mul", fix.Mul, -1, least, refused},
		{"Mul", fix.Mul, least, 1, answer{least, true}},
		{"Mul", fix.Mul, least, 0, answer{0, true}},
		{"Mul", fix.Mul, 1 << 32, 1 << 31, refused},
		{"Mul", fix.Mul, 1 << 32, -1 << 31, answer{least, true}},
		{"Mul", fix.Mul, 1 << 32, 1 << 32, refused},
		{"Mul", fix.Mul, least, least, refused},
		{"Mul", fix.Mul, 3037000500, 3037000500, refused},
		{"Mul", fix.Mul, 3037000499, 3037000499, answer{9223372030926249001, true}},
	} {
		if got := answered(c.call(c.a, c.b)); got != c.want {
			t.Errorf("%s of %d and %d: %v, want %v", c.name, c.a, c.b, got, c.want)
		}
	}
}

func TestAbsIsWithoutItsSign(t *testing.T) {
	for _, a := range numbers() {
		n, ok := fix.Abs(a)
		expect(t, "Abs", []int64{a}, n, ok, new(big.Int).Abs(exact(a)))
	}
	for a, want := range map[int64]answer{
		0: {0, true}, 5: {5, true}, -5: {5, true},
		greatest: {greatest, true}, least + 1: {greatest, true}, least: refused,
	} {
		if got := answered(fix.Abs(a)); got != want {
			t.Errorf("Abs of %d: %v, want %v", a, got, want)
		}
	}
}

func TestMulDivRoundsByItsMode(t *testing.T) {
	for _, a := range factors() {
		for _, b := range factors() {
			product := new(big.Int).Mul(exact(a), exact(b))
			for _, c := range factors() {
				for mode := 0; c > 0 && mode <= 2; mode++ {
					n, ok := fix.MulDiv(a, b, c, mode)
					expect(t, "MulDiv", []int64{a, b, c, int64(mode)}, n, ok, rounded(product, exact(c), mode))
				}
			}
		}
	}
}

func TestMulDivRoundsSmallNumbers(t *testing.T) {
	for _, c := range []struct {
		a, b, c int64
		want    [3]int64
	}{
		{7, 1, 2, [3]int64{3, 4, 4}},
		{-7, 1, 2, [3]int64{-4, -3, -4}},
		{7, -1, 2, [3]int64{-4, -3, -4}},
		{-7, -1, 2, [3]int64{3, 4, 4}},
		{7, 9, 2, [3]int64{31, 32, 32}},
		{1, 1, 2, [3]int64{0, 1, 1}},
		{-1, 1, 2, [3]int64{-1, 0, -1}},
		{1, 1, 3, [3]int64{0, 1, 0}},
		{2, 1, 3, [3]int64{0, 1, 1}},
		{-1, 1, 3, [3]int64{-1, 0, 0}},
		{-2, 1, 3, [3]int64{-1, 0, -1}},
		{6, 1, 3, [3]int64{2, 2, 2}},
		{-6, 1, 3, [3]int64{-2, -2, -2}},
		{0, least, 5, [3]int64{0, 0, 0}},
	} {
		for mode, want := range c.want {
			if got := answered(fix.MulDiv(c.a, c.b, c.c, mode)); got != (answer{want, true}) {
				t.Errorf("MulDiv(%d, %d, %d, %d): %v, want %d", c.a, c.b, c.c, mode, got, want)
			}
		}
	}
}

func TestMulDivLosesNothingOnTheWay(t *testing.T) {
	const half = 1 << 62
	for _, c := range []struct {
		a, b, c int64
		mode    int
		want    answer
	}{
		{greatest, greatest, greatest, 0, answer{greatest, true}},
		{least, greatest, greatest, 1, answer{least, true}},
		{least, least, greatest, 0, refused},
		{least, least, greatest, 1, refused},
		{greatest, greatest, greatest - 1, 0, refused},
		{greatest, greatest - 1, greatest, 2, answer{greatest - 1, true}},
		{least, -1, 1, 0, refused},
		{least, -1, 2, 0, answer{half, true}},
		{least, 1, 1, 2, answer{least, true}},
		{least / 2, 3, 1, 0, refused},
		{-1<<61 - 1, 8, 2, 1, refused},
		// Rounding down is beyond 64 bits, rounding up is not: the quotient is the least number less a part of one.
		{-7378697629483820647, 5, 4, 0, refused},
		{-7378697629483820647, 5, 4, 1, answer{least, true}},
		{-7378697629483820647, 5, 4, 2, refused},
		{7378697629483820647, 5, 4, 1, refused},
		// Likewise at the other end: the greatest number and a part of one.
		{7378697629483820646, 5, 4, 0, answer{greatest, true}},
		{7378697629483820646, 5, 4, 1, refused},
		{7378697629483820646, 5, 4, 2, refused},
		// The rest's double is more than 64 bits hold.
		{greatest - 1, 1, greatest, 2, answer{1, true}},
		{half, 1, greatest, 2, answer{1, true}},
		{half - 1, 1, greatest, 2, answer{0, true}},
		{-half, 1, greatest, 2, answer{-1, true}},
		{1 - half, 1, greatest, 2, answer{0, true}},
		{half, 1, greatest - 1, 2, answer{1, true}},
		{half - 1, 1, greatest - 1, 2, answer{1, true}},
		{1 - half, 1, greatest - 1, 2, answer{-1, true}},
		{2 - half, 1, greatest - 1, 2, answer{0, true}},
	} {
		if got := answered(fix.MulDiv(c.a, c.b, c.c, c.mode)); got != c.want {
			t.Errorf("MulDiv(%d, %d, %d, %d): %v, want %v", c.a, c.b, c.c, c.mode, got, c.want)
		}
	}
}

func TestMulDivRefusesOtherDivisorsAndModes(t *testing.T) {
	for _, c := range []int64{0, -1, -2, least, least + 1} {
		for mode := 0; mode <= 2; mode++ {
			if got := answered(fix.MulDiv(6, 2, c, mode)); got != refused {
				t.Errorf("MulDiv by %d, mode %d: %v", c, mode, got)
			}
		}
	}
	for _, mode := range []int{-1, 3, 4, math.MinInt, math.MaxInt} {
		for _, a := range []int64{0, 6, -7} {
			if got := answered(fix.MulDiv(a, 1, 2, mode)); got != refused {
				t.Errorf("MulDiv of %d, mode %d: %v", a, mode, got)
			}
		}
	}
}

func TestSqrtRoundsDown(t *testing.T) {
	for _, n := range numbers() {
		got := answered(fix.Sqrt(n))
		switch {
		case n < 0 && got != refused:
			t.Errorf("Sqrt of %d: %v", n, got)
		case n >= 0 && got != (answer{new(big.Int).Sqrt(exact(n)).Int64(), true}):
			t.Errorf("Sqrt of %d: %v", n, got)
		}
	}
	for n, want := range map[int64]int64{
		0: 0, 1: 1, 2: 1, 3: 1, 4: 2, 8: 2, 9: 3, 99: 9, 100: 10,
		1<<62 - 1: 1<<31 - 1, 1 << 62: 1 << 31,
		9223372030926249000: 3037000498, 9223372030926249001: 3037000499, greatest: 3037000499,
	} {
		if got := answered(fix.Sqrt(n)); got != (answer{want, true}) {
			t.Errorf("Sqrt of %d: %v, want %d", n, got, want)
		}
	}
	for _, n := range []int64{-1, -4, least} {
		if got := answered(fix.Sqrt(n)); got != refused {
			t.Errorf("Sqrt of %d: %v", n, got)
		}
	}
}

func TestHypIsTheNumberOrRefused(t *testing.T) {
	for _, a := range numbers() {
		for _, b := range numbers() {
			squares := new(big.Int).Mul(exact(a), exact(a))
			squares.Add(squares, new(big.Int).Mul(exact(b), exact(b)))
			n, ok := fix.Hyp(a, b)
			expect(t, "Hyp", []int64{a, b}, n, ok, squares.Sqrt(squares))
		}
	}
	for _, c := range []struct {
		a, b int64
		want answer
	}{
		{0, 0, answer{0, true}},
		{3, 4, answer{5, true}},
		{-3, -4, answer{5, true}},
		{1, 1, answer{1, true}},
		{2, 2, answer{2, true}},
		{greatest, 0, answer{greatest, true}},
		{0, -greatest, answer{greatest, true}},
		{least, 0, refused},
		{0, least, refused},
		{least, least, refused},
		{greatest, greatest, refused},
		// 2^64 - 1 is what the square lacks to that of 2^63.
		{greatest, 4294967295, answer{greatest, true}},
		{greatest, 4294967296, refused},
		{6521908912666391106, 6521908912666391106, answer{greatest, true}},
		{6521908912666391107, 6521908912666391107, refused},
	} {
		if got := answered(fix.Hyp(c.a, c.b)); got != c.want {
			t.Errorf("Hyp of %d and %d: %v, want %v", c.a, c.b, got, c.want)
		}
	}
}

func TestClampHoldsBetween(t *testing.T) {
	for _, c := range []struct{ n, lo, hi, want int64 }{
		{5, 0, 10, 5},
		{0, 0, 10, 0},
		{10, 0, 10, 10},
		{-1, 0, 10, 0},
		{11, 0, 10, 10},
		{7, 3, 3, 3},
		{least, -1, 1, -1},
		{greatest, -1, 1, 1},
		{least, least, greatest, least},
		{greatest, least, greatest, greatest},
		{greatest, least, least, least},
		// Where lo is above hi, lo is asked first.
		{0, 10, -10, 10},
		{9, 10, -10, 10},
		{10, 10, -10, -10},
		{11, 10, -10, -10},
		{-20, 10, -10, 10},
	} {
		if got := fix.Clamp(c.n, c.lo, c.hi); got != c.want {
			t.Errorf("Clamp(%d, %d, %d): %d, want %d", c.n, c.lo, c.hi, got, c.want)
		}
	}
}

func TestSumTakesAnyHowManyInOrder(t *testing.T) {
	for _, c := range []struct {
		list []int64
		want answer
	}{
		{nil, answer{0, true}},
		{[]int64{}, answer{0, true}},
		{[]int64{5}, answer{5, true}},
		{[]int64{least}, answer{least, true}},
		{[]int64{1, 2, 3, -10}, answer{-4, true}},
		{[]int64{greatest, least, 1}, answer{0, true}},
		{[]int64{greatest, -1, 1}, answer{greatest, true}},
		{[]int64{1, -1, greatest}, answer{greatest, true}},
		// All together are a number, but a sum on the way isn't.
		{[]int64{greatest, 1, -1}, refused},
		{[]int64{least, -1, 1}, refused},
		{[]int64{1, greatest, least}, refused},
		{[]int64{greatest, 1}, refused},
		{[]int64{greatest, 1, 0, 0}, refused},
		{[]int64{least, least, greatest, greatest, 1}, refused},
	} {
		before := slices.Clone(c.list)
		if got := answered(fix.Sum(c.list...)); got != c.want {
			t.Errorf("Sum of %v: %v, want %v", c.list, got, c.want)
		}
		if !slices.Equal(before, c.list) {
			t.Errorf("Sum of %v changed its list to %v", before, c.list)
		}
	}
	if got := answered(fix.Sum()); got != (answer{0, true}) {
		t.Errorf("Sum of nothing: %v", got)
	}
	if got := answered(fix.Sum(1, 2, 3)); got != (answer{6, true}) {
		t.Errorf("Sum of 1, 2, 3: %v", got)
	}
}

func TestSumIsTheNumberOrRefused(t *testing.T) {
	x := uint64(1234567)
	for length := 0; length < 40; length++ {
		for shift := 0; shift < 12; shift++ {
			list := make([]int64, length)
			total, right := new(big.Int), true
			for i := range list {
				x = step(x)
				list[i] = int64(x) >> shift
				right = right && total.Add(total, exact(list[i])).IsInt64()
			}
			want := refused
			if right {
				want = answer{total.Int64(), true}
			}
			if got := answered(fix.Sum(list...)); got != want {
				t.Errorf("Sum of %v: %v, want %v", list, got, want)
			}
		}
	}
}
