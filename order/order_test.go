package order_test

import (
	"math"
	"testing"

	"apogee/order"
)

func TestBytesAndNumber(t *testing.T) {
	for _, c := range []struct {
		n     uint64
		size  int
		bytes string
	}{
		{0, 1, "\x00"},
		{255, 1, "\xff"},
		{1, 2, "\x00\x01"},
		{256, 2, "\x01\x00"},
		{65535, 2, "\xff\xff"},
		{0x01020304, 4, "\x01\x02\x03\x04"},
		{0x80000000, 4, "\x80\x00\x00\x00"},
		{0x0102030405060708, 8, "\x01\x02\x03\x04\x05\x06\x07\x08"},
		{math.MaxUint64, 8, "\xff\xff\xff\xff\xff\xff\xff\xff"},
		{0, 0, ""},
	} {
		if got := order.Bytes(c.n, c.size); got != c.bytes {
			t.Errorf("Bytes(%x, %d): %x, want %x", c.n, c.size, got, c.bytes)
		}
		if got := order.Number(c.bytes); got != c.n {
			t.Errorf("Number of %x: %x, want %x", c.bytes, got, c.n)
		}
	}
}

func TestBytesTakesTheLowestOnes(t *testing.T) {
	for _, c := range []struct {
		n     uint64
		size  int
		bytes string
	}{
		{256, 1, "\x00"},
		{0x123456, 2, "\x34\x56"},
		{math.MaxUint64, 4, "\xff\xff\xff\xff"},
		{1 << 32, 4, "\x00\x00\x00\x00"},
		{7, 0, ""},
		{7, -1, ""},
		{0x0102, 10, "\x00\x00\x00\x00\x00\x00\x00\x00\x01\x02"},
	} {
		if got := order.Bytes(c.n, c.size); got != c.bytes {
			t.Errorf("Bytes(%x, %d): %x, want %x", c.n, c.size, got, c.bytes)
		}
	}
}

func TestNumberOfMoreBytesThanItHolds(t *testing.T) {
	if got := order.Number("\xff\x00\x00\x00\x00\x00\x00\x01\x02"); got != 0x0102 {
		t.Errorf("%x", got)
	}
}
