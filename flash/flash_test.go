package flash_test

import (
	"math"
	"strings"
	"testing"

	"apogee/api"
	"apogee/flash"
)

const (
	least    = math.MinInt
	greatest = math.MaxInt
)

// made is a flash that may be.
func made(t *testing.T, size int) *flash.Flash {
	t.Helper()
	f, e := flash.New(size)
	if f == nil || e != api.OK {
		t.Fatalf("New(%d): %v, %d", size, f, e)
	}
	return f
}

// holding is a flash with the power on that was written once, all of it.
func holding(t *testing.T, s string) *flash.Flash {
	t.Helper()
	f := made(t, len(s))
	expectWrite(t, f, 0, s, api.OK)
	return f
}

func expectWrite(t *testing.T, f *flash.Flash, at int, s string, want api.Errno) {
	t.Helper()
	if e := f.Write(at, s); e != want {
		t.Fatalf("Write(%d, %x): %d, want %d", at, s, e, want)
	}
}

func expectRead(t *testing.T, f *flash.Flash, at, n int, want string, e api.Errno) {
	t.Helper()
	if got, gotE := f.Read(at, n); got != want || gotE != e {
		t.Fatalf("Read(%d, %d): %x, %d; want %x, %d", at, n, got, gotE, want, e)
	}
}

// expect holds all that a flash tells of itself against what it should be.
func expect(t *testing.T, f *flash.Flash, bytes string, writes int, down bool) {
	t.Helper()
	if f.Size() != len(bytes) || f.Writes() != writes || f.Down() != down {
		t.Fatalf("size %d, %d writes, down %v; want %d, %d, %v", f.Size(), f.Writes(), f.Down(), len(bytes), writes, down)
	}
	if down {
		expectRead(t, f, 0, len(bytes), "", api.ErrDown)
	} else {
		expectRead(t, f, 0, len(bytes), bytes, api.OK)
	}
}

// over is a text with another one laid over it.
func over(text string, at int, s string) string { return text[:at] + s + text[at+len(s):] }

func blank(n int) string { return strings.Repeat("\xff", n) }

// P8.1

func TestNewIsBlankAndOn(t *testing.T) {
	for _, size := range []int{1, 2, 24, 48, 255, 256, 4095, 4096} {
		expect(t, made(t, size), blank(size), 0, false)
	}
}

func TestNewOfAWrongSize(t *testing.T) {
	for _, size := range []int{0, -1, -4096, least, 4097, 4098, 8192, 1 << 20, 1<<32 + 1, greatest} {
		if f, e := flash.New(size); f != nil || e != api.ErrArg {
			t.Errorf("New(%d): %v, %d; want none, %d", size, f, e, api.ErrArg)
		}
	}
}

func TestWhatIsWrittenIsRead(t *testing.T) {
	f := made(t, 8)
	expectWrite(t, f, 2, "abc", api.OK)
	expect(t, f, "\xff\xffabc\xff\xff\xff", 1, false)
	expectWrite(t, f, 3, "x", api.OK)
	expect(t, f, "\xff\xffaxc\xff\xff\xff", 2, false)
	expectWrite(t, f, 0, "01234567", api.OK)
	expect(t, f, "01234567", 3, false)
	expectWrite(t, f, 7, "\x00", api.OK)
	expect(t, f, "0123456\x00", 4, false)
	for at := range 9 {
		for n := range 9 - at {
			expectRead(t, f, at, n, "0123456\x00"[at:at+n], api.OK)
		}
	}
	expect(t, f, "0123456\x00", 4, false)
}

func TestBytesAreAnyOnes(t *testing.T) {
	list := make([]byte, 256)
	for i := range list {
		list[i] = byte(255 - i)
	}
	s := string(list)
	f := holding(t, s)
	expect(t, f, s, 1, false)
	for i := range 256 {
		expectRead(t, f, i, 1, s[i:i+1], api.OK)
	}
	// A bit that was 0 can be 1 again.
	expectWrite(t, f, 0, blank(256), api.OK)
	expect(t, f, blank(256), 2, false)
}

func TestTheGreatestFlashTakesAll(t *testing.T) {
	s := strings.Repeat("0123456789abcdef", 256)
	f := holding(t, s)
	expect(t, f, s, 1, false)
	expectRead(t, f, 4095, 1, "f", api.OK)
	expectRead(t, f, 4096, 0, "", api.OK)
	expectRead(t, f, 4096, 1, "", api.ErrRange)
	expectWrite(t, f, 4095, "x", api.OK)
	expectWrite(t, f, 4095, "xy", api.ErrRange)
	expect(t, f, over(s, 4095, "x"), 2, false)
}

func TestWriteWithoutPlaces(t *testing.T) {
	const bytes = "abcd"
	f := holding(t, bytes)
	for _, c := range []struct {
		at int
		s  string
	}{
		{-1, ""}, {-1, "x"}, {-1, "xyz"}, {-4, "wxyz"}, {least, ""}, {least, "x"},
		{5, ""}, {5, "x"}, {6, ""}, {4, "x"}, {3, "xy"}, {2, "xyz"}, {0, "vwxyz"}, {0, blank(5000)},
		{greatest, ""}, {greatest, "x"}, {greatest - 1, "xy"}, {1 << 32, "x"}, {1<<32 - 1, ""},
	} {
		expectWrite(t, f, c.at, c.s, api.ErrRange)
		expect(t, f, bytes, 1, false)
	}
}

func TestReadWithoutPlaces(t *testing.T) {
	const bytes = "abcd"
	f := holding(t, bytes)
	for _, c := range []struct{ at, n int }{
		{-1, 0}, {-1, 1}, {-1, 5}, {least, 0}, {least, greatest}, {least, least},
		{5, 0}, {5, 1}, {4, 1}, {3, 2}, {0, 5}, {greatest, 0}, {greatest, 1}, {1 << 32, 0}, {1<<32 + 1, 1},
		{0, -1}, {4, -1}, {4, -4}, {1, -1}, {0, least}, {4, least}, {-1, -1}, {5, -1}, {5, -5},
		{0, greatest}, {1, greatest}, {4, greatest}, {greatest, greatest}, {0, 1<<32 + 1},
	} {
		expectRead(t, f, c.at, c.n, "", api.ErrRange)
		expect(t, f, bytes, 1, false)
	}
}

func TestNoBytesHavePlacesUpToTheSize(t *testing.T) {
	f := holding(t, "abcd")
	for at := range 5 {
		expectRead(t, f, at, 0, "", api.OK)
		expectWrite(t, f, at, "", api.OK)
		expect(t, f, "abcd", at+2, false)
	}
}

func TestWritesAreCountedUpToMaxCycles(t *testing.T) {
	f := made(t, 1)
	for n := 1; n <= 1000000; n++ {
		f.Write(0, "a")
		if f.Writes() != n {
			t.Fatalf("Writes behind %d: %d", n, f.Writes())
		}
	}
	for range 3 {
		expectWrite(t, f, 0, "b", api.OK)
		expect(t, f, "b", 1000000, false)
	}
	f.Tear(1)
	expectWrite(t, f, 0, "c", api.ErrDown)
	f.Up()
	expect(t, f, "c", api.MaxCycles, false)
}

func TestNothingGoesWithoutPower(t *testing.T) {
	f := holding(t, "abcd")
	f.Tear(0)
	expectWrite(t, f, 0, "x", api.ErrDown)
	for range 2 {
		expect(t, f, "abcd", 2, true)
		// That it is down is told ahead of a wrong place.
		for _, at := range []int{0, 1, 3, 4, 5, -1, least, greatest} {
			for _, s := range []string{"", "x", "vwxyz"} {
				expectWrite(t, f, at, s, api.ErrDown)
			}
			for _, n := range []int{0, 1, 5, -1, least, greatest} {
				expectRead(t, f, at, n, "", api.ErrDown)
			}
		}
	}
	f.Up()
	expect(t, f, "abcd", 2, false)
}

func TestAWriteThatIsRefusedIsntTorn(t *testing.T) {
	f := holding(t, "abcd")
	f.Tear(1)
	for _, at := range []int{-1, 3, 5, greatest} {
		expectWrite(t, f, at, "xy", api.ErrRange)
		expect(t, f, "abcd", 1, false)
	}
	expectWrite(t, f, 1, "xy", api.ErrDown)
	f.Up()
	expect(t, f, "axcd", 2, false)
}

// P8.2

func TestTearWaitsForTheNextWriteAlone(t *testing.T) {
	f := made(t, 3)
	f.Tear(1)
	expect(t, f, blank(3), 0, false)
	expectRead(t, f, 0, 3, blank(3), api.OK)
	expectWrite(t, f, 0, "abc", api.ErrDown)
	expect(t, f, "a\xff\xff", 1, true)
	f.Up()
	expect(t, f, "a\xff\xff", 1, false)
	expectWrite(t, f, 0, "def", api.OK)
	expect(t, f, "def", 2, false)
	expectWrite(t, f, 0, "ghi", api.OK)
	expect(t, f, "ghi", 3, false)
}

func TestTearOfAnyNumber(t *testing.T) {
	for bytes, want := range map[int]string{
		least: "....", -1: "....", -3: "....", 0: "....", 1: ".a..", 2: ".ab.", 3: ".abc", 4: ".abc", 5: ".abc",
		4096: ".abc", 1 << 32: ".abc", greatest: ".abc",
	} {
		f := holding(t, "....")
		f.Tear(bytes)
		expectWrite(t, f, 1, "abc", api.ErrDown)
		expect(t, f, want, 2, true)
		f.Up()
		expect(t, f, want, 2, false)
	}
}

func TestTheLastTearCounts(t *testing.T) {
	for _, c := range []struct {
		tears []int
		want  string
	}{
		{[]int{3, 1}, "a...."},
		{[]int{1, 3}, "abc.."},
		{[]int{1, 1}, "a...."},
		{[]int{5, -1}, "....."},
		{[]int{-5, 2}, "ab..."},
		{[]int{greatest, least, 4, 2}, "ab..."},
		{[]int{0, greatest}, "abcde"},
	} {
		f := holding(t, ".....")
		for _, bytes := range c.tears {
			f.Tear(bytes)
		}
		expectWrite(t, f, 0, "abcde", api.ErrDown)
		f.Up()
		expect(t, f, c.want, 2, false)
		expectWrite(t, f, 0, "abcde", api.OK)
	}
}

func TestAWriteOfNoBytesIsTornToo(t *testing.T) {
	for _, bytes := range []int{-1, 0, 1, 5} {
		f := holding(t, "abc")
		f.Tear(bytes)
		expectWrite(t, f, 3, "", api.ErrDown)
		expect(t, f, "abc", 2, true)
		f.Up()
		expectWrite(t, f, 3, "", api.OK)
		expect(t, f, "abc", 3, false)
	}
}

func TestUpForgetsATear(t *testing.T) {
	f := holding(t, "abc")
	f.Tear(1)
	f.Up()
	expect(t, f, "abc", 1, false)
	expectWrite(t, f, 0, "def", api.OK)
	expect(t, f, "def", 2, false)
	f.Tear(0)
	expectWrite(t, f, 0, "x", api.ErrDown)
	// One that is told while the power is off waits, but only till it is back.
	f.Tear(1)
	expect(t, f, "def", 3, true)
	f.Up()
	expectWrite(t, f, 0, "ghi", api.OK)
	expect(t, f, "ghi", 4, false)
}

func TestUpWithThePowerOnIsNothing(t *testing.T) {
	f := holding(t, "abc")
	for range 2 {
		f.Up()
		expect(t, f, "abc", 1, false)
	}
	f.Tear(2)
	expectWrite(t, f, 0, "xyz", api.ErrDown)
	for range 2 {
		f.Up()
		expect(t, f, "xyc", 2, false)
	}
}

func TestNilIsNothing(t *testing.T) {
	var f *flash.Flash
	for _, at := range []int{least, -1, 0, 1, greatest} {
		expectWrite(t, f, at, "", api.ErrNil)
		expectWrite(t, f, at, "a", api.ErrNil)
		for _, n := range []int{least, -1, 0, 1, greatest} {
			expectRead(t, f, at, n, "", api.ErrNil)
		}
		f.Tear(at)
		f.Up()
		if !f.Down() || f.Size() != 0 || f.Writes() != 0 {
			t.Fatalf("%v, %d, %d; want true, 0, 0", f.Down(), f.Size(), f.Writes())
		}
	}
}

func TestFlashesAreTheirOwn(t *testing.T) {
	a, b := made(t, 3), made(t, 3)
	a.Tear(2)
	expectWrite(t, b, 0, "xyz", api.OK)
	expectWrite(t, a, 0, "abc", api.ErrDown)
	expect(t, a, "ab\xff", 1, true)
	expect(t, b, "xyz", 1, false)
	b.Tear(1)
	a.Up()
	expectWrite(t, b, 0, "def", api.ErrDown)
	expect(t, a, "ab\xff", 1, false)
	expect(t, b, "dyz", 2, true)
}

func TestWhatWasReadStays(t *testing.T) {
	f := holding(t, "abcd")
	before, _ := f.Read(1, 2)
	expectWrite(t, f, 0, "wxyz", api.OK)
	if before != "bc" {
		t.Errorf("%q behind another write", before)
	}
}

// P8.3

func TestATornWriteLeavesItsBeginning(t *testing.T) {
	const was = "012345"
	for at := range len(was) + 1 {
		for n := range len(was) - at + 1 {
			s := "abcdef"[:n]
			for tear := -1; tear <= n+1; tear++ {
				f := holding(t, was)
				f.Tear(tear)
				expectWrite(t, f, at, s, api.ErrDown)
				f.Up()
				expect(t, f, over(was, at, s[:max(0, min(tear, n))]), 2, false)
			}
		}
	}
}

// aside is what a flash should be, held as a text that no write is copied into.
type aside struct {
	bytes  string
	writes int
	down   bool
	tear   int
}

// none says that no tear waits.
const none = -1

func (m *aside) write(at int, s string) api.Errno {
	if m.down {
		return api.ErrDown
	}
	if at < 0 || at > len(m.bytes) || len(s) > len(m.bytes)-at {
		return api.ErrRange
	}
	m.writes++
	if m.tear == none {
		m.bytes = over(m.bytes, at, s)
		return api.OK
	}
	m.bytes, m.tear, m.down = over(m.bytes, at, s[:min(m.tear, len(s))]), none, true
	return api.ErrDown
}

// TestAnyCallsOneBehindTheOther holds a flash against what is reckoned beside it.
func TestAnyCallsOneBehindTheOther(t *testing.T) {
	x := uint64(88172645463325252)
	below := func(n int) int {
		x ^= x << 13
		x ^= x >> 7
		x ^= x << 17
		return int(x>>33) % n
	}
	for _, size := range []int{1, 2, 5, 24, 48, 100} {
		f, m := made(t, size), aside{bytes: blank(size), tear: none}
		for range 5000 {
			switch below(8) {
			case 0:
				m.tear = below(size + 2)
				f.Tear(m.tear)
			case 1, 2:
				f.Up()
				m.tear, m.down = none, false
			default:
				list := make([]byte, below(size/2+3))
				for i := range list {
					list[i] = byte(below(256))
				}
				at := below(size+3) - 1
				expectWrite(t, f, at, string(list), m.write(at, string(list)))
			}
			expect(t, f, m.bytes, m.writes, m.down)
		}
	}
}
