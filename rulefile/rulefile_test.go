package rulefile_test

import (
	"encoding/binary"
	"encoding/hex"
	"hash/crc32"
	"math"
	"reflect"
	"strings"
	"testing"

	"apogee/api"
	"apogee/rulefile"
	"apogee/rules"
)

const edge = 1 << 30

// raw is the text that is written in digits of sixteen, with spaces anywhere.
func raw(digits string) string {
	list, err := hex.DecodeString(strings.ReplaceAll(digits, " ", ""))
	if err != nil {
		panic(err)
	}
	return string(list)
}

// row is a list of places, written as their numbers.
func row(numbers ...int64) []api.Point {
	var list []api.Point
	for i := 0; i < len(numbers); i += 2 {
		list = append(list, api.Point{X: numbers[i], Y: numbers[i+1]})
	}
	return list
}

// known have sums that were reckoned elsewhere.
var known = []struct {
	r     api.Rules
	bytes string
}{
	{
		api.Rules{Phases: []api.Phase{{Area: row(0, 0, 1, 0, 0, 1), G: 1, MaxV: 1, Min: 1}}, N: 1, D: 1, Green: 1, Step: 1, Age: 1, Lift: 1},
		"41465455 01 01 01 01 01 00 00000000 00000001 00000001 03 01 00000001 00000001 00000000 0000000000000000 0000000100000000 0000000000000001 a34e0e19",
	},
	{
		api.Rules{
			Phases: []api.Phase{
				{Area: row(-1, -2, 300, -2, 300, 70000, -1, 70000), G: 10, MaxV: 1000, Min: 3, Up: 40},
				{Area: row(-edge, -edge, edge, -edge, edge, edge), G: 100, MaxV: 1 << 16, Min: 1000000, Up: edge},
			},
			N: 2, D: 3, Green: 4, Eps: 5, Step: 6, Age: 7, Lift: 8, Safing: 1,
		},
		"41465455 02 02 03 04 07 01 00000005 00000006 00000008" +
			"04 0a 000003e8 00000003 00000028 fffffffffffffffe 0000012cfffffffe 0000012c00011170 ffffffff00011170" +
			"03 64 00010000 000f4240 40000000 c0000000c0000000 40000000c0000000 4000000040000000 4760d974",
	},
}

// greatest are the rules with the most bytes; their sum was reckoned elsewhere.
func greatest() api.Rules {
	r := api.Rules{N: 50, D: 50, Green: 50, Eps: 1024, Step: 1 << 16, Age: 50, Lift: edge, Safing: 4}
	for range 4 {
		r.Phases = append(r.Phases, api.Phase{Area: row(0, 0, 9, 0, 9, 9, 8, 9, 7, 2, 6, 9, 5, 2, 4, 9), G: 100, MaxV: 1 << 16, Min: 1000000, Up: edge})
	}
	return r
}

// missions are rules that may be.
func missions() []api.Rules {
	list := []api.Rules{greatest()}
	for _, c := range known {
		list = append(list, c.r)
	}
	return list
}

func four(n int64) string { return string(binary.BigEndian.AppendUint32(nil, uint32(n))) }

func one(n int64) string { return string([]byte{byte(n)}) }

// summed is a body with the sum that it should have, by the library's means.
func summed(body string) string { return body + four(int64(crc32.ChecksumIEEE([]byte(body)))) }

// body is what stands ahead of the sum, of any rules, whether they may be or not.
func body(r api.Rules) string {
	s := "AFTU"
	for _, n := range []int{len(r.Phases), r.N, r.D, r.Green, r.Age, r.Safing} {
		s += one(int64(n))
	}
	for _, n := range []int64{r.Eps, r.Step, r.Lift} {
		s += four(n)
	}
	for _, p := range r.Phases {
		s += one(int64(len(p.Area))) + one(p.G) + four(p.MaxV) + four(int64(p.Min)) + four(p.Up)
		for _, corner := range p.Area {
			s += four(corner.X) + four(corner.Y)
		}
	}
	return s
}

// cutFrom are the rules whose body it is, as far as its numbers are there, and how many bytes are left behind them; false, where some are missing.
func cutFrom(s string) (api.Rules, int, bool) {
	at := 0
	take := func(n int) int64 {
		at += n
		if at > len(s) {
			return 0
		}
		var list [4]byte
		copy(list[4-n:], s[at-n:at])
		return int64(binary.BigEndian.Uint32(list[:]))
	}
	take(4)
	phases := take(1)
	r := api.Rules{}
	r.N, r.D, r.Green, r.Age, r.Safing = int(take(1)), int(take(1)), int(take(1)), int(take(1)), int(take(1))
	r.Eps, r.Step, r.Lift = take(4), take(4), take(4)
	for range phases {
		corners := take(1)
		p := api.Phase{G: take(1)}
		p.MaxV, p.Min, p.Up = take(4), int(take(4)), take(4)
		for range corners {
			p.Area = append(p.Area, api.Point{X: int64(int32(take(4))), Y: int64(int32(take(4)))})
		}
		r.Phases = append(r.Phases, p)
	}
	return r, len(s) - at, at <= len(s)
}

// answer is what Read should answer of any text.
func answer(s string) (api.Rules, api.Errno) {
	if s[:min(4, len(s))] != "AFTU"[:min(4, len(s))] {
		return api.Rules{}, api.ErrForm
	}
	r, left, ok := cutFrom(s)
	switch {
	case !ok || left < 4:
		return api.Rules{}, api.ErrShort
	case left > 4:
		return api.Rules{}, api.ErrForm
	case summed(s[:len(s)-4]) != s:
		return api.Rules{}, api.ErrSum
	case !rules.Right(r):
		return api.Rules{}, api.ErrForm
	}
	return r, api.OK
}

type noise uint64

func (x *noise) below(n int64) int64 {
	*x ^= *x << 13
	*x ^= *x >> 7
	*x ^= *x << 17
	return int64(*x>>1) % n
}

// mission is any one that may be.
func (x *noise) mission() api.Rules {
	for {
		r := api.Rules{N: int(1 + x.below(50)), D: int(1 + x.below(50)), Green: int(1 + x.below(50)), Eps: x.below(1025), Step: 1 + x.below(1<<16), Age: int(1 + x.below(50)), Lift: 1 + x.below(edge)}
		for range 1 + x.below(4) {
			p := api.Phase{G: 1 + x.below(100), MaxV: 1 + x.below(1<<16), Min: int(1 + x.below(1000000)), Up: x.below(edge + 1)}
			out := int64(1) << (2 + x.below(29))
			for range 3 + x.below(3) {
				p.Area = append(p.Area, api.Point{X: x.below(2*out+1) - out, Y: x.below(2*out+1) - out})
			}
			r.Phases = append(r.Phases, p)
		}
		r.Safing = int(x.below(int64(len(r.Phases) + 1)))
		if rules.Right(r) {
			return r
		}
	}
}

func expectPrinted(t *testing.T, r api.Rules, want string) {
	t.Helper()
	if got, e := rulefile.Print(r); got != want || e != api.OK {
		t.Fatalf("Print of %v: %x, %d; want %x", r, got, e, want)
	}
	if got, e := rulefile.Read(want); !reflect.DeepEqual(got, r) || e != api.OK {
		t.Fatalf("Read of %x: %v, %d; want %v", want, got, e, r)
	}
	if got := rulefile.Size(r); got != len(want) {
		t.Fatalf("Size of %v: %d, want %d", r, got, len(want))
	}
}

func expectNotPrinted(t *testing.T, r api.Rules) {
	t.Helper()
	if got, e := rulefile.Print(r); got != "" || e != api.ErrArg {
		t.Fatalf("Print of %v: %x, %d", r, got, e)
	}
	if got := rulefile.Size(r); got != 0 {
		t.Fatalf("Size of %v: %d", r, got)
	}
}

func expectRefused(t *testing.T, s string, want api.Errno) {
	t.Helper()
	if got, e := rulefile.Read(s); !reflect.DeepEqual(got, api.Rules{}) || e != want {
		t.Fatalf("Read of %x: %v, %d; want %d", s, got, e, want)
	}
}

// expectAsAnswer holds Read against what the chapter says of any text.
func expectAsAnswer(t *testing.T, s string) {
	t.Helper()
	r, want := answer(s)
	if want != api.OK {
		expectRefused(t, s, want)
		return
	}
	if got, e := rulefile.Read(s); !reflect.DeepEqual(got, r) || e != api.OK {
		t.Fatalf("Read of %x: %v, %d; want %v", s, got, e, r)
	}
	if again, e := rulefile.Print(r); again != s || e != api.OK {
		t.Fatalf("Print of what was read of %x: %x, %d", s, again, e)
	}
}

// P14.1

func TestKnownRules(t *testing.T) {
	for _, c := range known {
		expectPrinted(t, c.r, raw(c.bytes))
		if got := summed(body(c.r)); got != raw(c.bytes) {
			t.Errorf("the test lays %x, and %x is known", got, raw(c.bytes))
		}
	}
	s, _ := rulefile.Print(greatest())
	if len(s) != 338 || s[334:] != raw("83d0fd50") {
		t.Errorf("the greatest has %d bytes: %x", len(s), s)
	}
	expectPrinted(t, greatest(), summed(body(greatest())))
	if got := rulefile.Size(known[0].r); got != 64 {
		t.Errorf("Size: %d", got)
	}
}

func TestAnyRules(t *testing.T) {
	x := noise(88172645463325252)
	for range 2000 {
		r := x.mission()
		expectPrinted(t, r, summed(body(r)))
	}
}

func TestPrintRefusesWhatMayNotBe(t *testing.T) {
	expectNotPrinted(t, api.Rules{})
	for _, wrong := range wrongRules() {
		expectNotPrinted(t, wrong)
	}
	r := greatest()
	r.Lift = 1<<32 + 1
	expectNotPrinted(t, r)
	r = greatest()
	r.N = 257
	expectNotPrinted(t, r)
	r = greatest()
	r.Phases[2].Up = -1 << 32
	expectNotPrinted(t, r)
	r = greatest()
	r.Phases[0].Area[0].X = math.MinInt64
	expectNotPrinted(t, r)
}

// wrongRules may not be a mission's, though each number has its bytes.
func wrongRules() []api.Rules {
	changes := []func(r *api.Rules){
		func(r *api.Rules) { r.Phases = nil; r.Safing = 0 },
		func(r *api.Rules) { r.Phases = append(r.Phases, r.Phases...) },
		func(r *api.Rules) { r.N = 0 },
		func(r *api.Rules) { r.N = 51 },
		func(r *api.Rules) { r.D = 0 },
		func(r *api.Rules) { r.D = 255 },
		func(r *api.Rules) { r.Green = 0 },
		func(r *api.Rules) { r.Green = 51 },
		func(r *api.Rules) { r.Age = 0 },
		func(r *api.Rules) { r.Age = 51 },
		func(r *api.Rules) { r.Safing = 5 },
		func(r *api.Rules) { r.Eps = 1025 },
		func(r *api.Rules) { r.Eps = 1<<32 - 1 },
		func(r *api.Rules) { r.Step = 0 },
		func(r *api.Rules) { r.Step = 1<<16 + 1 },
		func(r *api.Rules) { r.Step = 1<<32 - 1 },
		func(r *api.Rules) { r.Lift = 0 },
		func(r *api.Rules) { r.Lift = edge + 1 },
		func(r *api.Rules) { r.Lift = 1 << 31 },
		func(r *api.Rules) { r.Phases[1].G = 0 },
		func(r *api.Rules) { r.Phases[0].G = 101 },
		func(r *api.Rules) { r.Phases[3].MaxV = 0 },
		func(r *api.Rules) { r.Phases[3].MaxV = 1<<16 + 1 },
		func(r *api.Rules) { r.Phases[2].Min = 0 },
		func(r *api.Rules) { r.Phases[2].Min = 1000001 },
		func(r *api.Rules) { r.Phases[0].Up = edge + 1 },
		func(r *api.Rules) { r.Phases[0].Up = 1<<32 - 1 },
		func(r *api.Rules) { r.Phases[1].Area = nil },
		func(r *api.Rules) { r.Phases[1].Area = r.Phases[1].Area[:2] },
		func(r *api.Rules) { r.Phases[1].Area = append(r.Phases[1].Area, api.Point{Y: 9}) },
		func(r *api.Rules) { r.Phases[1].Area[0] = r.Phases[1].Area[4] },
		func(r *api.Rules) { r.Phases[2].Area[0].X = -edge - 1 },
		func(r *api.Rules) { r.Phases[2].Area[0].Y = -1 << 31 },
		func(r *api.Rules) { r.Phases[3].Area = make([]api.Point, 255) },
		func(r *api.Rules) { r.Phases = make([]api.Phase, 255) },
	}
	var list []api.Rules
	for _, change := range changes {
		r := greatest()
		change(&r)
		list = append(list, r)
	}
	return list
}

func TestReadRefusesWhatMayNotBe(t *testing.T) {
	for _, r := range wrongRules() {
		expectRefused(t, summed(body(r)), api.ErrForm)
		// The sum is asked ahead of that.
		expectRefused(t, body(r)+"\x00\x00\x00\x00", api.ErrSum)
	}
}

func TestEachBeginningIsShort(t *testing.T) {
	for _, r := range append(missions(), wrongRules()...) {
		s := summed(body(r))
		for n := range s {
			expectRefused(t, s[:n], api.ErrShort)
		}
	}
}

func TestBytesThatAreLeft(t *testing.T) {
	for _, r := range append(missions(), wrongRules()...) {
		s := summed(body(r))
		for _, more := range []string{"\x00", "\xff", "AFTU", s, strings.Repeat("\x00", 999)} {
			expectRefused(t, s+more, api.ErrForm)
		}
		// A sum that holds of all of them makes it no better.
		expectRefused(t, summed(s), api.ErrForm)
		expectRefused(t, summed(s+"\x07"), api.ErrForm)
	}
}

func TestWhatItBeginsWith(t *testing.T) {
	for _, r := range missions() {
		s := summed(body(r))
		for at := range 4 {
			for b := range 256 {
				if byte(b) == s[at] {
					continue
				}
				bad := s[:at] + one(int64(b)) + s[at+1:]
				expectRefused(t, bad, api.ErrForm)
				expectRefused(t, summed(bad[:len(bad)-4]), api.ErrForm)
				// It is asked as far as it goes, ahead of what is missing.
				for n := at + 1; n < 12; n++ {
					expectRefused(t, bad[:n], api.ErrForm)
				}
			}
		}
	}
	for _, s := range []string{"a", "aftu", "AFTV", "XFTU", " AFTU", "AFT\x00"} {
		expectRefused(t, s, api.ErrForm)
	}
	for _, s := range []string{"", "A", "AF", "AFT", "AFTU"} {
		expectRefused(t, s, api.ErrShort)
	}
}

// TestEachByteAtEachPlace: with its sum left as it was, and with one that holds.
func TestEachByteAtEachPlace(t *testing.T) {
	for _, c := range known {
		s := raw(c.bytes)
		for at := range s {
			for b := range 256 {
				other := s[:at] + one(int64(b)) + s[at+1:]
				expectAsAnswer(t, other)
				expectAsAnswer(t, summed(other[:len(s)-4]))
			}
		}
	}
}

// TestMoreThanThereIs: a beginning may ask for far more bytes than rules can have; with all of these it is asked as any other.
func TestMoreThanThereIs(t *testing.T) {
	head := body(known[0].r)[:22]
	for _, phases := range []int64{0, 5, 128, 255} {
		for _, corners := range []int64{0, 3, 9, 128, 255} {
			s := head[:4] + one(phases) + head[5:]
			for range phases {
				s += one(corners) + one(1) + four(1) + four(1) + four(0) + strings.Repeat(four(7), int(2*corners))
			}
			expectRefused(t, summed(s), api.ErrForm)
			expectRefused(t, s+"\x01\x02\x03\x04", api.ErrSum)
			expectRefused(t, s+"\x01\x02\x03", api.ErrShort)
			expectRefused(t, summed(s)+"\x01", api.ErrForm)
			if phases > 0 {
				expectRefused(t, s, api.ErrShort)
				expectRefused(t, s[:len(s)-4], api.ErrShort)
				expectRefused(t, s[:22], api.ErrShort)
				expectRefused(t, s[:23], api.ErrShort)
			}
		}
	}
}

func TestSum(t *testing.T) {
	for s, want := range map[string]uint32{
		"": 0, "\x01": 0, "\xff\xff": 0, "abc": 0, "\x01\x02\x03\x04": 0x01020304, "\xff\xff\xff\xff": 0xffffffff, "\x80\x00\x00\x00": 0x80000000,
		"AFTU\x00\x00\x00\x07": 7, "xxxxx\x12\x34\x56\x78": 0x12345678, "\x00\x00\x00\x00": 0, "\x09\x00\x00\x01\x00": 256,
	} {
		if got := rulefile.Sum(s); got != want {
			t.Errorf("Sum of %x: %x, want %x", s, got, want)
		}
	}
	for _, r := range missions() {
		s, _ := rulefile.Print(r)
		if got := rulefile.Sum(s); got != crc32.ChecksumIEEE([]byte(s[:len(s)-4])) {
			t.Errorf("Sum of %x: %x", s, got)
		}
	}
}

func TestWhatIsHandedInStays(t *testing.T) {
	r := greatest()
	s, _ := rulefile.Print(r)
	rulefile.Size(r)
	if !reflect.DeepEqual(r, greatest()) {
		t.Error(r)
	}
	a, _ := rulefile.Read(s)
	b, _ := rulefile.Read(s)
	a.Phases[0].Area[0].X, a.Phases[1].G = -5, -5
	if !reflect.DeepEqual(b, greatest()) {
		t.Error(b)
	}
}

// P14.2

// TestWhatIsReadIsPrintedAsItWas: of any texts, most of them made of rules by a few other bytes.
func TestWhatIsReadIsPrintedAsItWas(t *testing.T) {
	x := noise(2463534242)
	read := 0
	for range 30000 {
		list := []byte(body(x.mission()))
		for range x.below(3) {
			list[x.below(int64(len(list)))] = byte(x.below(256))
		}
		s := summed(string(list))
		expectAsAnswer(t, s)
		if _, e := rulefile.Read(s); e == api.OK {
			read++
		}
		cut := x.below(int64(len(s) + 1))
		expectAsAnswer(t, s[:cut])
		expectAsAnswer(t, s[cut:])
		expectAsAnswer(t, s[:cut]+one(x.below(256))+s[cut:])
	}
	if read < 10000 || read > 29000 {
		t.Errorf("%d of 30000 were read", read)
	}
}
