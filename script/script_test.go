package script_test

import (
	"math"
	"reflect"
	"slices"
	"strings"
	"testing"

	"apogee/api"
	"apogee/proc"
	"apogee/script"
	"apogee/unit"
)

// most is how many bytes a script may have.
const most = 1 << 14

// cycleSize is how many bytes a cycle takes in which nothing comes.
const cycleSize = 12

type noise uint64

func (x *noise) below(n int) int {
	*x ^= *x << 13
	*x ^= *x >> 7
	*x ^= *x << 17
	return int(*x>>33) % n
}

func (x *noise) bytes(length int) string {
	list := make([]byte, length)
	for i := range list {
		list[i] = byte(x.below(256))
	}
	return string(list)
}

// input is any one that may be printed.
func (x *noise) input() unit.Input {
	var in unit.Input
	for i := range 2 {
		in.Ports[i] = [2]string{x.bytes(x.below(5)), x.bytes(x.below(9) / 8 * x.below(256))}
		in.Ground[i] = x.bytes(x.below(7))
		in.Link[i], in.Tear[i], in.Reset[i] = x.below(256), x.below(256), x.below(2) == 0
	}
	return in
}

func (x *noise) setup() script.Setup {
	s := script.Setup{Image: x.bytes(x.below(300)), Port: [2]int{x.below(256), x.below(256)}}
	for range x.below(20) {
		s.List = append(s.List, x.input())
	}
	return s
}

// laid is what Print should tell of what may be.
func laid(s script.Setup) string {
	list := []byte{byte(len(s.Image) >> 8), byte(len(s.Image))}
	list = append(append(list, s.Image...), byte(s.Port[0]), byte(s.Port[1]))
	for _, in := range s.List {
		for i := range 2 {
			for _, text := range []string{in.Ports[i][0], in.Ports[i][1], in.Ground[i]} {
				list = append(append(list, byte(len(text))), text...)
			}
			reset := byte(0)
			if in.Reset[i] {
				reset = 1
			}
			list = append(list, byte(in.Link[i]), reset, byte(in.Tear[i]))
		}
	}
	return string(list)
}

func same(a, b script.Setup) bool {
	return a.Image == b.Image && a.Port == b.Port && slices.Equal(a.List, b.List)
}

func expectPrinted(t *testing.T, s script.Setup, want string) {
	t.Helper()
	if got, e := script.Print(s); got != want || e != api.OK {
		t.Fatalf("Print: %x, %d; want %x", got, e, want)
	}
	if got, e := script.Read(want); !same(got, s) || e != api.OK {
		t.Fatalf("Read of %x: %+v, %d; want %+v", want, got, e, s)
	}
}

func expectNotPrinted(t *testing.T, s script.Setup, want api.Errno) {
	t.Helper()
	if got, e := script.Print(s); got != "" || e != want {
		t.Fatalf("Print: %d bytes, %d; want %d", len(got), e, want)
	}
}

// expectRefused is of a script that is refused, and so does nothing.
func expectRefused(t *testing.T, s string, want api.Errno) {
	t.Helper()
	if got, e := script.Read(s); !reflect.DeepEqual(got, script.Setup{}) || e != want {
		t.Fatalf("Read of %d bytes: %+v, %d; want %d", len(s), got, e, want)
	}
	if got, e := script.Run(s); got != "" || e != want || script.Fired(s) != 0 {
		t.Fatalf("Run of %d bytes: %x, %d; Fired %d; want %d", len(s), got, e, script.Fired(s), want)
	}
}

// P26.1

func TestKnownScripts(t *testing.T) {
	expectPrinted(t, script.Setup{}, "\x00\x00\x00\x00")
	expectPrinted(t, script.Setup{Image: "abc", Port: [2]int{1, 255}}, "\x00\x03abc\x01\xff")
	expectPrinted(t, script.Setup{List: make([]unit.Input, 2)}, "\x00\x00\x00\x00"+strings.Repeat("\x00", 2*cycleSize))
	in := unit.Input{
		Ports: [2][2]string{{"a", "bc"}, {"", "d"}}, Ground: [2]string{"efg", ""},
		Link: [2]int{4, 5}, Reset: [2]bool{true, false}, Tear: [2]int{6, 255},
	}
	expectPrinted(t, script.Setup{List: []unit.Input{in}}, "\x00\x00\x00\x00"+"\x01a\x02bc\x03efg\x04\x01\x06"+"\x00\x01d\x00\x05\x00\xff")
	long := strings.Repeat("x", 300)
	expectPrinted(t, script.Setup{Image: long}, "\x01\x2c"+long+"\x00\x00")
}

func TestAnyScripts(t *testing.T) {
	x := noise(88172645463325252)
	for range 500 {
		s := x.setup()
		expectPrinted(t, s, laid(s))
	}
}

// fields are a cycle's numbers.
func fields(in *unit.Input) []*int {
	return []*int{&in.Link[0], &in.Link[1], &in.Tear[0], &in.Tear[1]}
}

// texts are a cycle's texts.
func texts(in *unit.Input) []*string {
	return []*string{&in.Ports[0][0], &in.Ports[0][1], &in.Ports[1][0], &in.Ports[1][1], &in.Ground[0], &in.Ground[1]}
}

func TestWhatMayNotBePrinted(t *testing.T) {
	wrong := []int{-1, -256, 256, 257, 1 << 32, 1<<32 + 1, math.MaxInt, math.MinInt}
	for i := range 2 {
		for _, n := range []int{0, 1, 128, 255} {
			s := script.Setup{}
			s.Port[i] = n
			expectPrinted(t, s, laid(s))
		}
		for _, n := range wrong {
			s := script.Setup{}
			s.Port[i] = n
			expectNotPrinted(t, s, api.ErrArg)
		}
	}
	for i := range 4 {
		for _, n := range []int{0, 1, 128, 255} {
			list := make([]unit.Input, 3)
			*fields(&list[1])[i] = n
			expectPrinted(t, script.Setup{List: list}, laid(script.Setup{List: list}))
		}
		for _, n := range wrong {
			for at := range 3 {
				list := make([]unit.Input, 3)
				*fields(&list[at])[i] = n
				expectNotPrinted(t, script.Setup{List: list}, api.ErrArg)
			}
		}
	}
	for i := range 6 {
		for length, want := range map[int]api.Errno{1: api.OK, 254: api.OK, 255: api.OK, 256: api.ErrArg, 257: api.ErrArg, 512: api.ErrArg, 1 << 16: api.ErrArg} {
			list := make([]unit.Input, 2)
			*texts(&list[1])[i] = strings.Repeat("\xa5", length)
			if want == api.OK {
				expectPrinted(t, script.Setup{List: list}, laid(script.Setup{List: list}))
			} else {
				expectNotPrinted(t, script.Setup{List: list}, want)
			}
		}
	}
}

func TestHowMuchIsPrinted(t *testing.T) {
	image := strings.Repeat("i", 1<<17)
	for length, want := range map[int]api.Errno{most - 5: api.OK, most - 4: api.OK, most - 3: api.ErrFull, most: api.ErrFull, 65535: api.ErrFull, 65536: api.ErrArg, 65537: api.ErrArg, 1 << 17: api.ErrArg} {
		s := script.Setup{Image: image[:length]}
		if want == api.OK {
			expectPrinted(t, s, laid(s))
		} else {
			expectNotPrinted(t, s, want)
		}
	}
	// As many cycles as there is room for, and one byte, or one cycle, more.
	s := script.Setup{Image: image[:most-4-1000*cycleSize], List: make([]unit.Input, 1000)}
	expectPrinted(t, s, laid(s))
	s.List[999].Ground[1] = "x"
	expectNotPrinted(t, s, api.ErrFull)
	s.List = make([]unit.Input, 1001)
	expectNotPrinted(t, s, api.ErrFull)
	s.List = make([]unit.Input, 100000)
	expectNotPrinted(t, s, api.ErrFull)
	// What may not be is asked first, wherever it stands.
	s.List[99999].Tear[1] = 256
	expectNotPrinted(t, s, api.ErrArg)
}

func TestEachBeginning(t *testing.T) {
	x := noise(2463534242)
	for range 20 {
		s := x.setup()
		all := laid(s)
		ends := map[int]int{}
		for cycles := range len(s.List) + 1 {
			ends[len(laid(script.Setup{Image: s.Image, Port: s.Port, List: s.List[:cycles]}))] = cycles
		}
		for n := range len(all) + 1 {
			if cycles, ok := ends[n]; ok {
				got, e := script.Read(all[:n])
				if want := (script.Setup{Image: s.Image, Port: s.Port, List: s.List[:cycles]}); !same(got, want) || e != api.OK {
					t.Fatalf("Read of %x: %+v, %d", all[:n], got, e)
				}
			} else {
				expectRefused(t, all[:n], api.ErrShort)
			}
		}
	}
	for _, s := range []string{"", "\x00", "\x00\x00", "\x00\x00\x00", "\x00\x01\x00\x00", "\xff\xff\x00\x00", "\x00\x00\x00\x00\x00", "\x00\x00\x00\x00\xff"} {
		expectRefused(t, s, api.ErrShort)
	}
}

func TestResetIsOneOrNone(t *testing.T) {
	empty := "\x00\x00\x00\x00" + strings.Repeat("\x00", 3*cycleSize)
	for at := 4; at < len(empty); at++ {
		for b := range 256 {
			list := []byte(empty)
			list[at] = byte(b)
			place := (at - 4) % 6
			switch {
			case place == 4 && b > 1:
				expectRefused(t, string(list), api.ErrForm)
				// Where it is short, too, that is told.
				expectRefused(t, string(list[:len(list)-1]), api.ErrShort)
				expectRefused(t, string(list)+"\x00", api.ErrShort)
			case place >= 3:
				if s, e := script.Read(string(list)); e != api.OK || laid(s) != string(list) {
					t.Fatalf("Read of %x: %+v, %d", list, s, e)
				}
			}
		}
	}
}

func TestHowMuchIsRead(t *testing.T) {
	image := strings.Repeat("i", 65535)
	of := func(length int) string {
		return string([]byte{byte(length >> 8), byte(length)}) + image[:length] + "\x01\x02"
	}
	if s, e := script.Read(of(most - 4)); e != api.OK || len(s.Image) != most-4 || s.Port != [2]int{1, 2} {
		t.Error(len(s.Image), e)
	}
	for _, length := range []int{most - 3, most, 65535} {
		expectRefused(t, of(length), api.ErrForm)
		expectRefused(t, of(length)[:length+3], api.ErrShort)
		expectRefused(t, of(length)+"\x00", api.ErrShort)
		expectRefused(t, of(length)+strings.Repeat("\x00", cycleSize), api.ErrForm)
	}
	// The last cycle goes up to the last byte, or one beyond it.
	whole := of(most-4-1000*cycleSize) + strings.Repeat("\x00", 1000*cycleSize)
	if s, e := script.Read(whole); e != api.OK || len(s.List) != 1000 || len(whole) != most {
		t.Error(len(s.List), e)
	}
	whole = of(most-3-1000*cycleSize) + strings.Repeat("\x00", 1000*cycleSize)
	expectRefused(t, whole, api.ErrForm)
	expectRefused(t, whole[:len(whole)-1], api.ErrShort)
	expectRefused(t, whole+strings.Repeat("\x00", 1<<20), api.ErrShort)
	expectRefused(t, whole+strings.Repeat("\x00", cycleSize<<15), api.ErrForm)
}

func TestWhatIsReadIsNewMemory(t *testing.T) {
	x := noise(7)
	s := x.setup()
	all := laid(s)
	a, _ := script.Read(all)
	b, _ := script.Read(all)
	for i := range a.List {
		a.List[i] = unit.Input{}
	}
	if !same(b, s) {
		t.Error("changed")
	}
	was := slices.Clone(s.List)
	script.Print(s)
	if !slices.Equal(s.List, was) {
		t.Error("changed")
	}
}

// P26.2

// shown is what a unit should tell of inputs, as a script's answers, and when it fires.
func shown(s script.Setup) (string, int) {
	u := unit.New(s.Image, s.Port)
	var list []byte
	for _, in := range s.List {
		told := u.Cycle(in)
		for _, o := range told {
			b := 4*o.Phase + 16*o.State
			if o.Up {
				b++
			}
			if o.Fire {
				b += 2
			}
			list = append(list, byte(b))
		}
		list = append(list, 0)
		if u.Fired() {
			list[len(list)-1] = 1
		}
	}
	return string(list), u.When()
}

func expectRun(t *testing.T, s script.Setup) string {
	t.Helper()
	want, when := shown(s)
	all := laid(s)
	got, e := script.Run(all)
	if got != want || e != api.OK {
		t.Fatalf("Run of %+v: %x, %d; want %x", s, got, e, want)
	}
	if script.Fired(all) != when {
		t.Fatalf("Fired: %d, want %d", script.Fired(all), when)
	}
	return got
}

func TestRunOfNoCycles(t *testing.T) {
	for _, s := range []script.Setup{{}, {Image: "abc"}, {Image: image(t), Port: [2]int{3, 4}}} {
		if got := expectRun(t, s); got != "" {
			t.Errorf("%x", got)
		}
	}
}

func TestRun(t *testing.T) {
	arm, terminate := proc.CommandFrame(api.CArm), proc.CommandFrame(api.CTerminate)
	list := []unit.Input{
		{Ground: [2]string{arm, arm}},
		{},
		{Ground: [2]string{terminate, ""}},
		{Ground: [2]string{"", terminate}},
		{Reset: [2]bool{true, false}},
		{Tear: [2]int{0, 3}},
	}
	s := script.Setup{Image: image(t), List: list}
	// Safe, armed, one fired, both fired, one reset, one without power.
	want := "\x01\x01\x00" + "\x11\x11\x00" + "\x23\x11\x00" + "\x23\x23\x01" + "\x00\x23\x01" + "\x00\x00\x01"
	if got := expectRun(t, s); got != want {
		t.Errorf("%x, want %x", got, want)
	}
	if got := script.Fired(laid(s)); got != 4 {
		t.Errorf("Fired: %d", got)
	}
	s.List = list[:3]
	if got := script.Fired(laid(s)); got != 0 {
		t.Errorf("Fired: %d", got)
	}
	// With a fault of its own one is never armed, and so the other one isn't.
	s.List, s.Port = list, [2]int{0, 1}
	if got := expectRun(t, s); got[:12] != strings.Repeat("\x01\x01\x00", 4) {
		t.Errorf("%x", got)
	}
}

func TestRunTellsPhases(t *testing.T) {
	s := script.Setup{Image: image(t)}
	var last unit.Input
	for count := range 12 {
		n := api.Nav{Count: count, Z: 600}
		for i := range 2 {
			last.Ports[i] = [2]string{proc.NavFrame(0, n), proc.NavFrame(1, n)}
		}
		s.List = append(s.List, last)
	}
	got := expectRun(t, s)
	if got[0] != 1 || got[33] != 9 || got[34] != 9 {
		t.Errorf("%x", got)
	}
}

func TestAnyRuns(t *testing.T) {
	x := noise(362436069)
	for range 300 {
		s := x.setup()
		if x.below(3) > 0 {
			s.Image, s.Port = image(t), [2]int{x.below(9) / 8, 0}
		}
		for i := range s.List {
			for side := range 2 {
				s.List[i].Ground[side] = []string{proc.CommandFrame(1 + x.below(3)), proc.CommandFrame(1), ""}[x.below(3)]
				s.List[i].Reset[side] = x.below(20) == 0
				s.List[i].Tear[side] = x.below(20) / 19 * x.below(256)
				s.List[i].Link[side] = x.below(6) / 4
			}
		}
		expectRun(t, s)
	}
}
