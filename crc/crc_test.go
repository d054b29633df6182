package crc_test

import (
	"hash/crc32"
	"math"
	"math/bits"
	"strings"
	"sync"
	"testing"

	"apogee/crc"
)

const check = "123456789"

// texts are of all bytes and many lengths; some are no text of runes.
func texts() []string {
	list := []string{
		"", "\x00", "\x00\x00", "\x00\x00\x00\x00\x00", "\xff", "\xff\xff", "\xff\xff\xff\xff", "\x80", "\x01", "\x7f",
		"a", "A", "abc", check, "grün", "\xc3\x28", "\xed\xa0\x80", "\xf4\x90\x80\x80", "line\r\n\x00end",
		strings.Repeat("A", 256), strings.Repeat("\x00", 1000), strings.Repeat("\xff", 1000),
	}
	all := make([]byte, 256)
	for i := range all {
		all[i] = byte(i)
		list = append(list, string(all[i:i+1]), string(all[:i+1]))
	}
	x := uint64(88172645463325252)
	for length := range 80 {
		x = step(x)
		list = append(list, noise(x, length))
	}
	return list
}

func step(x uint64) uint64 {
	x ^= x << 13
	x ^= x >> 7
	return x ^ x<<17
}

func noise(x uint64, length int) string {
	list := make([]byte, length)
	for i := range list {
		x = step(x)
		list[i] = byte(x >> 24)
	}
	return string(list)
}

// divided is the sum of 16 bits as the rest of a long division, bit by bit: the text, the highest bit of each byte first, then 16 bits 0, with its first 16 bits turned, by 11021.
func divided(s string) uint16 {
	line := make([]bool, 0, 8*len(s)+16)
	for i := range len(s) {
		for bit := 7; bit >= 0; bit-- {
			line = append(line, s[i]>>bit&1 == 1)
		}
	}
	line = append(line, make([]bool, 16)...)
	for i := range 16 {
		line[i] = !line[i]
	}
	for i := range 8 * len(s) {
		if !line[i] {
			continue
		}
		for _, power := range []int{16, 12, 5, 0} {
			line[i+16-power] = !line[i+16-power]
		}
	}
	rest := uint16(0)
	for _, one := range line[8*len(s):] {
		rest <<= 1
		if one {
			rest |= 1
		}
	}
	return rest
}

// together lets many do something at the same time, and waits for all of them.
func together(many int, do func(i int)) {
	var all sync.WaitGroup
	start := make(chan struct{})
	for i := range many {
		all.Go(func() {
			<-start
			do(i)
		})
	}
	close(start)
	all.Wait()
}

// turned is a text with some neighbouring bits turned, from the bit at on, each byte's highest bit being its first one, or its lowest one.
func turned(s string, at int, pattern uint32, highest bool) string {
	list := []byte(s)
	for i := range 32 {
		if pattern>>i&1 == 0 {
			continue
		}
		bit := (at + i) % 8
		if highest {
			bit = 7 - bit
		}
		list[(at+i)/8] ^= 1 << bit
	}
	return string(list)
}

// P4.1

func TestSumsOfKnownTexts(t *testing.T) {
	table := crc.New()
	for _, c := range []struct {
		s     string
		sum16 uint16
		sum32 uint32
	}{
		{check, 0x29b1, 0xcbf43926},
		{"", 0xffff, 0},
		{"\x00", 0xe1f0, 0xd202ef8d},
		{"\xff", 0xff00, 0xff000000},
		{"\xff\xff", 0, 0xffff0000},
		{"\x00\x00", 0x1d0f, 0x41d912ff},
		{"A", 0xb915, 0xd3d99e8b},
		{strings.Repeat("A", 256), 0xea0b, 0x49975b13},
	} {
		if got := crc.Sum16(c.s); got != c.sum16 {
			t.Errorf("Sum16 of %q: %x, want %x", c.s, got, c.sum16)
		}
		if got := crc.Sum32(c.s); got != c.sum32 {
			t.Errorf("Sum32 of %q: %x, want %x", c.s, got, c.sum32)
		}
		if got := table.Sum16(c.s); got != c.sum16 {
			t.Errorf("a Table's Sum16 of %q: %x, want %x", c.s, got, c.sum16)
		}
		if got := table.Sum32(c.s); got != c.sum32 {
			t.Errorf("a Table's Sum32 of %q: %x, want %x", c.s, got, c.sum32)
		}
	}
}

func TestSumsOfAnyText(t *testing.T) {
	table := crc.New()
	for _, s := range texts() {
		want16, want32 := divided(s), crc32.ChecksumIEEE([]byte(s))
		if got := crc.Sum16(s); got != want16 {
			t.Errorf("Sum16 of %q: %x, want %x", s, got, want16)
		}
		if got := crc.Sum32(s); got != want32 {
			t.Errorf("Sum32 of %q: %x, want %x", s, got, want32)
		}
		if got := table.Sum16(s); got != want16 {
			t.Errorf("a Table's Sum16 of %q: %x, want %x", s, got, want16)
		}
		if got := table.Sum32(s); got != want32 {
			t.Errorf("a Table's Sum32 of %q: %x, want %x", s, got, want32)
		}
	}
}

func TestMore16GoesOnFromAnySum(t *testing.T) {
	for _, c := range []struct {
		sum  uint16
		s    string
		want uint16
	}{
		{0, "", 0},
		{0xffff, "", 0xffff},
		{0x8000, "", 0x8000},
		{0, "\x00", 0},
		{0, "\x01", 0x1021},
		{0, "\x80", 0x9188},
		{0x0100, "\x00", 0x1021},
		{0x0080, "\x00", 0x8000},
		{0x0080, "\x01", 0x9021},
		{0xffff, check, 0x29b1},
		{0, check, 0x31c3},
		{0x1d0f, check, 0xe5cc},
	} {
		if got := crc.More16(c.sum, c.s); got != c.want {
			t.Errorf("More16 of %x and %q: %x, want %x", c.sum, c.s, got, c.want)
		}
	}
	// The sum so far stands where the next two bytes will, so going on from it is the sum from 0 on of these with it turned into them.
	for sum := 0; sum <= math.MaxUint16; sum += 7 {
		want := crc.More16(0, string([]byte{byte(sum>>8) ^ 'n', byte(sum) ^ 'o'})+"te")
		if got := crc.More16(uint16(sum), "note"); got != want {
			t.Fatalf("More16 of %x: %x, want %x", sum, got, want)
		}
	}
}

func TestRows(t *testing.T) {
	table, known := crc.New(), crc32.MakeTable(crc32.IEEE)
	for i := range 256 {
		if got, want := table.Row16(i), crc.More16(0, string([]byte{byte(i)})); got != want {
			t.Errorf("Row16(%d): %x, want %x", i, got, want)
		}
		if got := table.Row32(i); got != known[i] {
			t.Errorf("Row32(%d): %x, want %x", i, got, known[i])
		}
	}
	for i, want := range map[int]uint16{0: 0, 1: 0x1021, 2: 0x2042, 127: 0x8f78, 128: 0x9188, 255: 0x1ef0} {
		if got := table.Row16(i); got != want {
			t.Errorf("Row16(%d): %x, want %x", i, got, want)
		}
	}
	for i, want := range map[int]uint32{0: 0, 1: 0x77073096, 2: 0xee0e612c, 128: 0xedb88320, 255: 0x2d02ef8d} {
		if got := table.Row32(i); got != want {
			t.Errorf("Row32(%d): %x, want %x", i, got, want)
		}
	}
}

var noRows = []int{-1, 256, -255, -256, 257, 511, 1 << 16, -1 << 16, 1<<32 + 1, 1<<62 + 1, math.MinInt, math.MaxInt}

func TestThereAreNoOtherRows(t *testing.T) {
	made, unmade := crc.New(), crc.New()
	made.Row16(1)
	for _, i := range noRows {
		for _, table := range []*crc.Table{made, unmade} {
			if a, b := table.Row16(i), table.Row32(i); a != 0 || b != 0 {
				t.Errorf("rows %d: %x, %x", i, a, b)
			}
		}
	}
}

func TestMadeWhenAskedForFirst(t *testing.T) {
	for name, ask := range map[string]func(*crc.Table){
		"Row16":            func(x *crc.Table) { x.Row16(3) },
		"Row16, the first": func(x *crc.Table) { x.Row16(0) },
		"Row16, the last":  func(x *crc.Table) { x.Row16(255) },
		"Row32":            func(x *crc.Table) { x.Row32(3) },
		"Row32, the first": func(x *crc.Table) { x.Row32(0) },
		"Row32, the last":  func(x *crc.Table) { x.Row32(255) },
		"Sum16":            func(x *crc.Table) { x.Sum16("a") },
		"Sum16 of nothing": func(x *crc.Table) { x.Sum16("") },
		"Sum32":            func(x *crc.Table) { x.Sum32("a") },
		"Sum32 of nothing": func(x *crc.Table) { x.Sum32("") },
	} {
		table, other := crc.New(), crc.New()
		crc.Sum16(check)
		crc.Sum32(check)
		for range 3 {
			if got := table.Made(); got != 0 {
				t.Errorf("%s: made %d times ahead of it", name, got)
			}
		}
		for range 3 {
			ask(table)
			if got := table.Made(); got != 1 {
				t.Errorf("%s: made %d times behind it", name, got)
			}
		}
		for i := range 256 {
			table.Row16(i)
			table.Row32(i)
			table.Sum16(check)
			table.Sum32(check)
		}
		if table.Made() != 1 || other.Made() != 0 {
			t.Errorf("%s: made %d times, and another one %d times", name, table.Made(), other.Made())
		}
	}
}

func TestARowThatThereIsNotMakesNothing(t *testing.T) {
	table := crc.New()
	for _, i := range noRows {
		table.Row16(i)
		table.Row32(i)
	}
	if got := table.Made(); got != 0 {
		t.Errorf("made %d times", got)
	}
	if table.Row16(1) != 0x1021 || table.Made() != 1 {
		t.Errorf("row 1: %x, made %d times", table.Row16(1), table.Made())
	}
}

// TestMadeOnceHoweverManyAsk: all who ask at once are answered by whole rows, which are made but once.
func TestMadeOnceHoweverManyAsk(t *testing.T) {
	const many = 16
	for range 300 {
		table := crc.New()
		together(many, func(i int) {
			if n := table.Made(); n < 0 || n > 1 {
				t.Errorf("made %d times", n)
			}
			right := false
			switch i % 4 {
			case 0:
				right = table.Row16(255) == 0x1ef0
			case 1:
				right = table.Row32(255) == 0x2d02ef8d
			case 2:
				right = table.Sum16(check) == 0x29b1
			case 3:
				right = table.Sum32(check) == 0xcbf43926
			}
			if !right || table.Made() != 1 {
				t.Errorf("call %d: right %v, made %d times", i%4, right, table.Made())
			}
		})
		if got := table.Made(); got != 1 {
			t.Fatalf("made %d times", got)
		}
	}
}

func TestNilIsNothing(t *testing.T) {
	var table *crc.Table
	for _, i := range append([]int{0, 1, 255}, noRows...) {
		if a, b := table.Row16(i), table.Row32(i); a != 0 || b != 0 {
			t.Errorf("rows %d: %x, %x", i, a, b)
		}
	}
	for _, s := range []string{"", "a", check} {
		if a, b := table.Sum16(s), table.Sum32(s); a != 0 || b != 0 {
			t.Errorf("sums of %q: %x, %x", s, a, b)
		}
	}
	if got := table.Made(); got != 0 {
		t.Errorf("made %d times", got)
	}
}

// P4.2

func TestSumsGoOnByteByByte(t *testing.T) {
	for _, s := range texts() {
		want, sum := crc.Sum16(s), crc.Sum16("")
		for i := range len(s) {
			if got := crc.More16(crc.Sum16(s[:i]), s[i:]); got != want {
				t.Fatalf("Sum16 of %q, split at %d: %x, want %x", s, i, got, want)
			}
			sum = crc.More16(sum, s[i:i+1])
		}
		if sum != want || crc.More16(want, "") != want {
			t.Errorf("Sum16 of %q, byte by byte: %x, want %x", s, sum, want)
		}
	}
}

// TestRowsGoOnByteByByte reckons both sums from what the rows are said to be, one byte behind the other.
func TestRowsGoOnByteByByte(t *testing.T) {
	table := crc.New()
	for _, s := range texts() {
		x16, x32 := uint16(0xffff), uint32(0xffffffff)
		for i := range len(s) {
			x16 = x16<<8 ^ table.Row16(int(x16>>8)^int(s[i]))
			x32 = x32>>8 ^ table.Row32(int(x32&0xff)^int(s[i]))
			if a, b := table.Sum16(s[:i+1]), table.Sum32(s[:i+1]); a != x16 || b != x32^0xffffffff {
				t.Fatalf("sums of %q: %x, %x; want %x, %x", s[:i+1], a, b, x16, x32^0xffffffff)
			}
		}
	}
}

// expectUnlike holds the sums of a text with some bits turned against those of the text itself.
func expectUnlike(t *testing.T, table *crc.Table, s string, at int, pattern uint32) {
	t.Helper()
	if other := turned(s, at, pattern, true); pattern <= math.MaxUint16 {
		if crc.Sum16(other) == crc.Sum16(s) || table.Sum16(other) == table.Sum16(s) {
			t.Fatalf("Sum16 of %q is that of %q", other, s)
		}
	}
	other := turned(s, at, pattern, false)
	if crc.Sum32(other) == crc.Sum32(s) || table.Sum32(other) == table.Sum32(s) {
		t.Fatalf("Sum32 of %q is that of %q", other, s)
	}
}

func TestNoFewBitsGoUnseenInAShortText(t *testing.T) {
	table := crc.New()
	for _, s := range []string{"\x00\x00\x00", "\xff\xff\xff", "a\xa5Z"} {
		// Where a pattern begins with a bit that isn't turned, it is another one a bit behind.
		for pattern := uint32(1); pattern <= math.MaxUint16; pattern += 2 {
			for at := 0; at+bits.Len32(pattern) <= 8*len(s); at++ {
				expectUnlike(t, table, s, at, pattern)
			}
		}
	}
}

func TestNoFewBitsGoUnseen(t *testing.T) {
	table := crc.New()
	patterns := []uint32{
		1, 3, 0xffff, 0x8001, 0x8005, 0x1021, 0x8811, 0x8408, 0xa001,
		0x10001, 0x1ffff, 0x80000001, 0xffffffff, 0xedb88320, 0xedb88321, 0x04c11db7, 0x82608edb, 0xdb710641,
	}
	x := uint64(2463534242)
	for shift := range 64 {
		x = step(x)
		patterns = append(patterns, uint32(x>>32)>>(shift%32)|1)
	}
	for _, length := range []int{1, 2, 3, 4, 5, 8, 64, 100} {
		for _, s := range []string{noise(x, length), strings.Repeat("\x00", length)} {
			for _, pattern := range patterns {
				for at := 0; at+bits.Len32(pattern) <= 8*length; at++ {
					expectUnlike(t, table, s, at, pattern)
				}
			}
		}
	}
}
