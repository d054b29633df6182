// Package wide is layer 1: see shared/doc/01-wide.md.
package wide

import (
	"cmp"
	"math/bits"
)

// Wide is a number of 128 bits: Hi times 2^64, and Lo, together.
type Wide struct {
	Hi int64
	Lo uint64
}

// Of: a number.
func Of(n int64) Wide { return Wide{Hi: n >> 63, Lo: uint64(n)} }

// Mul: two numbers' product.
func Mul(a, b int64) Wide {
	hi, lo := bits.Mul64(uint64(a), uint64(b))
	// A factor below 0 was taken as 2^64 more than it is, so the other factor is once too often in the upper half.
	if a < 0 {
		hi -= uint64(b)
	}
	if b < 0 {
		hi -= uint64(a)
	}
	return Wide{Hi: int64(hi), Lo: lo}
}

// Add: a sum.
func (w Wide) Add(v Wide) (Wide, bool) {
	lo, carry := bits.Add64(w.Lo, v.Lo, 0)
	hi, _ := bits.Add64(uint64(w.Hi), uint64(v.Hi), carry)
	sum := Wide{Hi: int64(hi), Lo: lo}
	// Only two numbers of one sign can leave the range, and then the sum has the other sign.
	if w.negative() == v.negative() && sum.negative() != w.negative() {
		return Wide{}, false
	}
	return sum, true
}

// Sub: a difference.
func (w Wide) Sub(v Wide) (Wide, bool) {
	lo, borrow := bits.Sub64(w.Lo, v.Lo, 0)
	hi, _ := bits.Sub64(uint64(w.Hi), uint64(v.Hi), borrow)
	rest := Wide{Hi: int64(hi), Lo: lo}
	// Only two numbers of unlike signs can leave the range, and then the difference has v's sign.
	if w.negative() != v.negative() && rest.negative() != w.negative() {
		return Wide{}, false
	}
	return rest, true
}

// Neg: the other sign.
func (w Wide) Neg() (Wide, bool) { return Wide{}.Sub(w) }

// Cmp: which one is greater.
func (w Wide) Cmp(v Wide) int {
	if c := cmp.Compare(w.Hi, v.Hi); c != 0 {
		return c
	}
	return cmp.Compare(w.Lo, v.Lo)
}

// Sign: -1, 0 or 1.
func (w Wide) Sign() int { return w.Cmp(Wide{}) }

// Int: as a number of 64 bits.
func (w Wide) Int() (int64, bool) {
	n := int64(w.Lo)
	if Of(n) != w {
		return 0, false
	}
	return n, true
}

// Div: divided, rounded down.
func (w Wide) Div(d int64) (q Wide, r int64, ok bool) {
	if d <= 0 {
		return Wide{}, 0, false
	}
	hi, rest := w.Hi/d, w.Hi%d
	// The language rounds towards 0; only a rest from 0 on rounds down, and may stand as the upper half below.
	if rest < 0 {
		hi--
		rest += d
	}
	// The rest is less than d, so this quotient has 64 bits and Div64 can't panic.
	lo, left := bits.Div64(uint64(rest), w.Lo, uint64(d))
	return Wide{Hi: hi, Lo: lo}, int64(left), true
}

// Sqrt: the square root, rounded down.
func (w Wide) Sqrt() (uint64, bool) {
	if w.negative() {
		return 0, false
	}
	var root uint64
	for bit := uint64(1) << 63; bit > 0; bit >>= 1 {
		if w.holdsSquare(root | bit) {
			root |= bit
		}
	}
	return root, true
}

func (w Wide) negative() bool { return w.Hi < 0 }

// holdsSquare says of a w from 0 on whether the square of n isn't above it. A square of 64 bits can have all 128 bits, which no Wide has, so the halves are held against w's as they are.
func (w Wide) holdsSquare(n uint64) bool {
	hi, lo := bits.Mul64(n, n)
	top := uint64(w.Hi)
	return hi < top || hi == top && lo <= w.Lo
}
