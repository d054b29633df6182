package nav_test

import (
	"encoding/binary"
	"encoding/hex"
	"math"
	"math/big"
	"strings"
	"testing"

	"apogee/api"
	"apogee/frame"
	"apogee/nav"
)

// size is how many bytes a nav's payload has.
const size = 27

// raw is the text that is written in digits of sixteen, with spaces anywhere.
func raw(digits string) string {
	list, err := hex.DecodeString(strings.ReplaceAll(digits, " ", ""))
	if err != nil {
		panic(err)
	}
	return string(list)
}

type noise uint64

func (x *noise) next() uint64 {
	*x ^= *x << 13
	*x ^= *x >> 7
	*x ^= *x << 17
	return uint64(*x)
}

func (x *noise) text(length int) string {
	list := make([]byte, length)
	for i := range list {
		list[i] = byte(x.next() >> 24)
	}
	return string(list)
}

// nav is any nav that may be told.
func (x *noise) nav() api.Nav {
	return api.Nav{
		Count: int(uint16(x.next() >> 24)), Flags: int(uint8(x.next() >> 24)),
		X: int64(int32(x.next() >> 24)), Y: int64(int32(x.next() >> 24)), Z: int64(int32(x.next() >> 24)),
		VX: int64(int32(x.next() >> 24)), VY: int64(int32(x.next() >> 24)), VZ: int64(int32(x.next() >> 24)),
	}
}

// with is a nav with another number at one of its six places.
func with(n api.Nav, place int, number int64) api.Nav {
	switch place {
	case 0:
		n.X = number
	case 1:
		n.Y = number
	case 2:
		n.Z = number
	case 3:
		n.VX = number
	case 4:
		n.VY = number
	case 5:
		n.VZ = number
	}
	return n
}

// laid lays a nav's payload with the library's means.
func laid(n api.Nav) string {
	list := binary.BigEndian.AppendUint16(nil, uint16(n.Count))
	list = append(list, byte(n.Flags))
	for _, number := range []int64{n.X, n.Y, n.Z, n.VX, n.VY, n.VZ} {
		list = binary.BigEndian.AppendUint32(list, uint32(number))
	}
	return string(list)
}

// known are navs and their payloads, which were written by hand.
var known = []struct {
	n     api.Nav
	bytes string
}{
	{api.Nav{}, "0000 00 00000000 00000000 00000000 00000000 00000000 00000000"},
	{api.Nav{Count: 1, X: -1}, "0001 00 ffffffff 00000000 00000000 00000000 00000000 00000000"},
	{api.Nav{Count: 1, Flags: 2, X: 3, Y: 4, Z: 5, VX: 6, VY: 7, VZ: 8}, "0001 02 00000003 00000004 00000005 00000006 00000007 00000008"},
	{api.Nav{Count: -1 + 1<<16, Flags: 255, X: -1, Y: -2, Z: -3, VX: -4, VY: -5, VZ: -6}, "ffff ff ffffffff fffffffe fffffffd fffffffc fffffffb fffffffa"},
	{api.Nav{Count: 0x1234, Flags: 0x56, X: 0x01020304, Y: 0x11121314, Z: 0x21222324, VX: 0x31323334, VY: 0x41424344, VZ: 0x51525354}, "1234 56 01020304 11121314 21222324 31323334 41424344 51525354"},
	{api.Nav{Count: 256, X: 1<<31 - 1, Y: -1 << 31, Z: 1<<31 - 1, VX: -1 << 31, VY: 1<<31 - 1, VZ: -1 << 31}, "0100 00 7fffffff 80000000 7fffffff 80000000 7fffffff 80000000"},
	{api.Nav{X: -1 << 31, Y: 1<<31 - 1, Z: -1 << 31, VX: 1<<31 - 1, VY: -1 << 31, VZ: 1<<31 - 1}, "0000 00 80000000 7fffffff 80000000 7fffffff 80000000 7fffffff"},
	{api.Nav{X: 1 << 30, Y: -1 << 30, VX: 1 << 16, VY: -1 << 16}, "0000 00 40000000 c0000000 00000000 00010000 ffff0000 00000000"},
}

func expectTold(t *testing.T, n api.Nav) {
	t.Helper()
	s := nav.Print(n)
	if !nav.Right(n) || s != laid(n) || len(s) != size {
		t.Fatalf("%v: may be told: %v, printed as %x, want %x", n, nav.Right(n), s, laid(n))
	}
	if got, e := nav.Read(s); got != n || e != api.OK {
		t.Fatalf("Read of %x: %v, %d; want %v", s, got, e, n)
	}
}

func expectNotTold(t *testing.T, n api.Nav) {
	t.Helper()
	if nav.Right(n) || nav.Print(n) != "" {
		t.Errorf("%v: may be told: %v, printed as %x", n, nav.Right(n), nav.Print(n))
	}
}

// P6.1

func TestKnownNavs(t *testing.T) {
	for _, c := range known {
		want := raw(c.bytes)
		if !nav.Right(c.n) {
			t.Errorf("%v may not be told", c.n)
		}
		if got := nav.Print(c.n); got != want {
			t.Errorf("Print of %v: %x, want %x", c.n, got, want)
		}
		if got, e := nav.Read(want); got != c.n || e != api.OK {
			t.Errorf("Read of %x: %v, %d; want %v", want, got, e, c.n)
		}
	}
}

func TestCountAndFlagsAtTheirEdges(t *testing.T) {
	for _, count := range []int{0, 1, 255, 256, 65534, 65535} {
		expectTold(t, api.Nav{Count: count})
	}
	for flags := range 256 {
		expectTold(t, api.Nav{Flags: flags})
	}
	for _, wrong := range []int{-1, -2, -65536, 65536, 65537, 1 << 31, 1 << 32, 1<<32 + 1, 1<<62 + 1, math.MinInt, math.MaxInt} {
		expectNotTold(t, api.Nav{Count: wrong})
		expectNotTold(t, api.Nav{Flags: wrong})
		expectNotTold(t, api.Nav{Count: wrong, Flags: wrong})
	}
	for _, wrong := range []int{256, 257, 511, 65535, -255, -256} {
		expectNotTold(t, api.Nav{Flags: wrong})
	}
}

func TestEachNumberAtItsEdges(t *testing.T) {
	for place := range 6 {
		for _, number := range []int64{0, 1, -1, 1 << 30, -1 << 30, 1<<31 - 2, 1<<31 - 1, -1<<31 + 1, -1 << 31} {
			expectTold(t, with(api.Nav{}, place, number))
			expectTold(t, with(api.Nav{Count: 65535, Flags: 255, X: 1, Y: -1, Z: 2, VX: -2, VY: 3, VZ: -3}, place, number))
		}
		for _, wrong := range []int64{1 << 31, 1<<31 + 1, -1<<31 - 1, 1<<32 - 1, 1 << 32, 1<<32 + 1, -1 << 32, -1<<32 - 1, 1 << 62, math.MaxInt64, math.MinInt64} {
			expectNotTold(t, with(api.Nav{}, place, wrong))
			expectNotTold(t, with(api.Nav{Count: 65535, Flags: 255, X: 1, Y: -1, Z: 2, VX: -2, VY: 3, VZ: -3}, place, wrong))
		}
	}
}

func TestReadOfAnotherLength(t *testing.T) {
	x := noise(88172645463325252)
	for _, s := range []string{nav.Print(api.Nav{Count: 1, X: -1}), strings.Repeat("\xff", size), x.text(size)} {
		for n := range size {
			if got, e := nav.Read(s[:n]); got != (api.Nav{}) || e != api.ErrShort {
				t.Errorf("Read of %d bytes: %v, %d", n, got, e)
			}
		}
		for _, more := range []int{1, 2, 4, 27, 37, 229, 256, 1000, 1 << 16} {
			if got, e := nav.Read(s + x.text(more)); got != (api.Nav{}) || e != api.ErrForm {
				t.Errorf("Read of %d bytes: %v, %d", size+more, got, e)
			}
		}
	}
}

// differs tells with exact numbers whether two of them differ by more than eps.
func differs(a, b, eps int64) bool {
	by := new(big.Int).Sub(big.NewInt(a), big.NewInt(b))
	return by.Abs(by).Cmp(big.NewInt(eps)) > 0
}

func TestNearOfEachNumber(t *testing.T) {
	numbers := []int64{
		0, 1, -1, 2, -2, 5, -5, 1<<31 - 1, -1 << 31, 1 << 32, 1<<62 - 1, 1 << 62, -1 << 62, -1<<62 - 1,
		math.MaxInt64 - 1, math.MaxInt64, math.MinInt64 + 1, math.MinInt64,
	}
	for _, a := range numbers {
		for _, b := range numbers {
			for _, eps := range numbers {
				// Below 0 no difference is at most eps, so the exact one tells that as well.
				want := !differs(a, b, eps)
				for place := range 6 {
					one, other := with(api.Nav{X: 7, Z: -9, VY: 4}, place, a), with(api.Nav{X: 7, Z: -9, VY: 4}, place, b)
					if got := nav.Near(one, other, eps); got != want {
						t.Fatalf("Near(%v, %v, %d): %v", one, other, eps, got)
					}
				}
			}
		}
	}
}

func TestNearAsksAllSix(t *testing.T) {
	a := api.Nav{X: 10, Y: -20, Z: 30, VX: -40, VY: 50, VZ: -60}
	b := api.Nav{X: 13, Y: -23, Z: 27, VX: -37, VY: 53, VZ: -57}
	if !nav.Near(a, b, 3) || !nav.Near(b, a, 3) || nav.Near(a, b, 2) || nav.Near(b, a, 2) {
		t.Error("differences of 3")
	}
	for place, by := range []int64{14, -24, 26, -36, 54, -56} {
		if c := with(b, place, by); nav.Near(a, c, 3) || nav.Near(c, a, 3) || !nav.Near(a, c, 4) || !nav.Near(c, a, 4) {
			t.Errorf("a difference of 4 at place %d", place)
		}
	}
}

func TestNearAsksTheSixNumbersAlone(t *testing.T) {
	a := api.Nav{Count: 1, Flags: 2, X: 5}
	for _, b := range []api.Nav{{X: 5}, {Count: 65535, X: 5}, {Flags: 255, X: 5}, {Count: math.MinInt, Flags: math.MaxInt, X: 5}} {
		if !nav.Near(a, b, 0) || !nav.Near(b, a, 0) {
			t.Errorf("%v and %v", a, b)
		}
		if nav.Near(a, b, -1) || nav.Near(a, b, math.MinInt64) {
			t.Errorf("%v and %v, by less than 0", a, b)
		}
	}
	if nav.Near(a, a, -1) || nav.Near(api.Nav{}, api.Nav{}, math.MinInt64) {
		t.Error("the same one, by less than 0")
	}
}

func TestKind(t *testing.T) {
	for source, want := range map[int]int{
		0: 16, 1: 17, -1: -1, 2: -1, 3: -1, 16: -1, 17: -1, -16: -1, -17: -1, 1 << 32: -1, 1<<32 + 1: -1, math.MinInt: -1, math.MaxInt: -1,
	} {
		if got := nav.Kind(source); got != want {
			t.Errorf("Kind(%d): %d, want %d", source, got, want)
		}
	}
}

func TestSource(t *testing.T) {
	payloads := []string{"", "a", laid(api.Nav{Count: 1}), strings.Repeat("a", 65)}
	expect := func(kind, source int, ok bool) {
		for _, payload := range payloads {
			if got, is := nav.Source(frame.Frame{Kind: kind, Payload: payload}); got != source || is != ok {
				t.Errorf("Source of kind %d: %d, %v", kind, got, is)
			}
		}
	}
	for kind := -300; kind < 300; kind++ {
		if kind != 16 && kind != 17 {
			expect(kind, 0, false)
		}
	}
	expect(16, 0, true)
	expect(17, 1, true)
	for _, kind := range []int{1<<32 + 16, 1<<32 + 17, 1<<62 + 16, math.MinInt, math.MinInt + 16, math.MaxInt} {
		expect(kind, 0, false)
	}
}

// P6.2

func TestWhatIsPrintedIsReadAsItWas(t *testing.T) {
	x := noise(2463534242)
	for range 20000 {
		expectTold(t, x.nav())
	}
}

func TestAny27BytesAreSomeNavs(t *testing.T) {
	expect := func(s string) {
		n, e := nav.Read(s)
		if e != api.OK || !nav.Right(n) || nav.Print(n) != s {
			t.Fatalf("Read of %x: %v, %d, printed as %x", s, n, e, nav.Print(n))
		}
	}
	x := noise(362436069)
	for range 20000 {
		expect(x.text(size))
	}
	for _, around := range []string{strings.Repeat("\x00", size), strings.Repeat("\xff", size), x.text(size)} {
		for at := range size {
			for b := range 256 {
				expect(around[:at] + string([]byte{byte(b)}) + around[at+1:])
			}
		}
	}
}

func TestANavGoesThroughAFrame(t *testing.T) {
	x := noise(521288629)
	for source := range 2 {
		n := x.nav()
		f, _, e := frame.Read(frame.Print(frame.Frame{Kind: nav.Kind(source), Payload: nav.Print(n)}))
		if e != api.OK {
			t.Fatalf("source %d: %d", source, e)
		}
		got, e := nav.Read(f.Payload)
		if is, ok := nav.Source(f); got != n || e != api.OK || is != source || !ok {
			t.Errorf("source %d: %v, %d, of %d, %v; want %v", source, got, e, is, ok, n)
		}
	}
}
