package unit_test

import (
	"math"
	"testing"

	"apogee/api"
	"apogee/flash"
	"apogee/frame"
	"apogee/peer"
	"apogee/proc"
	"apogee/unit"
)

// twin are two processors that are joined by hand.
type twin struct {
	procs   [2]*proc.Proc
	flashes [2]*flash.Flash
	links   [2]string
	cycles  int
	when    int
}

func newTwin(t *testing.T, image string, port [2]int) *twin {
	t.Helper()
	x := &twin{}
	for i := range 2 {
		var e api.Errno
		x.flashes[i], _ = flash.New(48)
		if x.procs[i], e = proc.New(image, port[i], x.flashes[i], 0); e != api.OK {
			t.Fatal(e)
		}
	}
	return x
}

func (x *twin) cycle(in unit.Input) [2]proc.Out {
	var told [2]proc.Out
	x.cycles++
	for i := range 2 {
		if in.Reset[i] {
			x.procs[i].Reset()
		}
		if in.Tear[i] >= 1 && x.procs[i].Up() {
			x.flashes[i].Tear(in.Tear[i] - 1)
		}
		word := []byte(x.links[1-i])
		if in.Link[i] == 1 {
			word = nil
		}
		if in.Link[i] != 0 && len(word) > 0 {
			word[0] ^= 1
		}
		told[i] = x.procs[i].Cycle(proc.In{Ports: in.Ports[i], Ground: in.Ground[i], Peer: string(word)})
	}
	x.links = [2]string{told[0].Link, told[1].Link}
	if x.when == 0 && told[0].Fire && told[1].Fire {
		x.when = x.cycles
	}
	return told
}

func expectCycle(t *testing.T, u *unit.Unit, x *twin, in unit.Input) [2]proc.Out {
	t.Helper()
	want := x.cycle(in)
	got := u.Cycle(in)
	if got != want {
		t.Fatalf("%+v tells %+v, want %+v", in, got, want)
	}
	if u.Now() != x.cycles || u.When() != x.when || u.Fired() != (x.when > 0) {
		t.Fatalf("Now %d, When %d, Fired %v; want %d, %d", u.Now(), u.When(), u.Fired(), x.cycles, x.when)
	}
	for i := range 2 {
		kept, ok := u.Proc(i).Kept()
		wantKept, wantOK := x.procs[i].Kept()
		bytes, e := u.Flash(i).Read(0, 48)
		wantBytes, wantE := x.flashes[i].Read(0, 48)
		if kept != wantKept || ok != wantOK || bytes != wantBytes || e != wantE || u.Proc(i).Up() != x.procs[i].Up() {
			t.Fatalf("processor %d kept %v, %v, in %x, %d; want %v, %v, in %x, %d", i, kept, ok, bytes, e, wantKept, wantOK, wantBytes, wantE)
		}
	}
	return got
}

// P25.1

func TestNew(t *testing.T) {
	s := printed(t, mission())
	for _, c := range []struct {
		image  string
		port   [2]int
		faults [2]int
	}{
		{s, [2]int{0, 0}, [2]int{0, 0}}, {s, [2]int{1, 0}, [2]int{2, 0}}, {s, [2]int{0, 2}, [2]int{0, 4}}, {s, [2]int{252, 3}, [2]int{0, 6}},
		{"", [2]int{0, 0}, [2]int{1, 1}}, {s[1:], [2]int{1, 2}, [2]int{3, 5}}, {s, [2]int{-1, math.MinInt}, [2]int{6, 0}},
	} {
		u := unit.New(c.image, c.port)
		for i := range 2 {
			if f := u.Flash(i); f.Size() != 48 || f.Writes() != 0 || f.Down() {
				t.Errorf("%v: flash %d has %d bytes", c.port, i, f.Size())
			}
			if p := u.Proc(i); !p.Up() || p.Faults() != c.faults[i] {
				t.Errorf("%v: processor %d has the faults %d", c.port, i, p.Faults())
			}
		}
		if u.Now() != 0 || u.When() != 0 || u.Fired() {
			t.Errorf("Now %d, When %d", u.Now(), u.When())
		}
	}
}

func TestProcAndFlashAreThemselves(t *testing.T) {
	u := unit.New(printed(t, mission()), [2]int{})
	if u.Proc(0) == u.Proc(1) || u.Flash(0) == u.Flash(1) || u.Proc(0) != u.Proc(0) || u.Flash(1) != u.Flash(1) {
		t.Error("not two of them")
	}
	for _, i := range []int{-1, 2, 3, 1 << 32, -1 << 32, math.MaxInt, math.MinInt} {
		if u.Proc(i) != nil || u.Flash(i) != nil {
			t.Errorf("there is a processor %d", i)
		}
	}
	u.Proc(1).Reset()
	if told := u.Cycle(unit.Input{}); !told[0].Up || told[1].Up {
		t.Error(told)
	}
	u.Flash(0).Tear(0)
	if told := u.Cycle(unit.Input{}); told[0].Up || u.Flash(1).Down() {
		t.Error(told)
	}
}

func TestOfNone(t *testing.T) {
	var u *unit.Unit
	if told := u.Cycle(unit.Input{Reset: [2]bool{true, true}, Tear: [2]int{1, 1}}); told != [2]proc.Out{} {
		t.Error(told)
	}
	if u.Fired() || u.When() != 0 || u.Now() != 0 || u.Proc(0) != nil || u.Flash(1) != nil {
		t.Error("of none")
	}
}

// TestAnyCycles: any inputs against two processors that are joined by hand.
func TestAnyCycles(t *testing.T) {
	x := noise(88172645463325252)
	fired := 0
	for round := range 120 {
		port := [2]int{x.below(20) / 19, x.below(20) / 19 * 2}
		u, w := unit.New(printed(t, mission()), port), newTwin(t, printed(t, mission()), port)
		for cycle := range 60 {
			var in unit.Input
			for i := range 2 {
				for source := range 2 {
					if x.below(2) == 0 {
						in.Ports[i][source] = proc.NavFrame(source, api.Nav{Count: cycle, X: int64(round%3) * 2000, Z: int64(cycle * 10)})
					} else {
						in.Ports[i][source] = x.anything(source)
					}
				}
				in.Ground[i] = x.command(api.CArm, api.CArm, api.CArm, api.CSafe, api.CTerminate)
				in.Link[i] = []int{0, 0, 0, 0, 1, 2, 3, 255, -1}[x.below(9)]
				in.Reset[i] = x.below(30) == 0
				if x.below(30) == 0 {
					in.Tear[i] = x.below(28) - 1
				}
			}
			expectCycle(t, u, w, in)
		}
		if u.Fired() {
			fired++
		}
	}
	if fired < 20 {
		t.Errorf("only %d fired", fired)
	}
}

// TestWordsComeACycleLater: as they were, not at all, or with the first byte turned.
func TestWordsComeACycleLater(t *testing.T) {
	for _, link := range []int{0, 1, 2, 3, 7, 255, -1, math.MaxInt, math.MinInt} {
		u := unit.New(printed(t, mission()), [2]int{})
		arm := proc.CommandFrame(api.CArm)
		told := u.Cycle(unit.Input{Ground: [2]string{arm, arm}})
		if told[0].State != api.SSafe || told[1].State != api.SSafe || wordOf(t, told[0]).Wish != 1 {
			t.Fatal(told)
		}
		told = u.Cycle(unit.Input{Link: [2]int{link, 0}})
		want := api.SSafe
		if link == 0 {
			want = api.SArmed
		}
		if told[0].State != want || told[1].State != api.SArmed {
			t.Errorf("Link %d: %d, %d", link, told[0].State, told[1].State)
		}
		// It hears the next one, which tells that the other one is armed.
		if told = u.Cycle(unit.Input{Link: [2]int{0, 1}}); told[0].State != api.SArmed {
			t.Errorf("Link %d: %d", link, told[0].State)
		}
	}
}

// TestOneThatIsNotUpTellsNoWord: what it told before isn't heard twice.
func TestOneThatIsNotUpTellsNoWord(t *testing.T) {
	u := unit.New(printed(t, mission()), [2]int{})
	arm := proc.CommandFrame(api.CArm)
	u.Cycle(unit.Input{Ground: [2]string{"", arm}})
	u.Cycle(unit.Input{Reset: [2]bool{false, true}})
	if told := u.Cycle(unit.Input{Ground: [2]string{arm, ""}}); told[0].State != api.SSafe || told[1].Up {
		t.Error(told)
	}
}

func TestResetAndTear(t *testing.T) {
	u := unit.New(printed(t, mission()), [2]int{})
	up := func() [2]bool { return [2]bool{u.Proc(0).Up(), u.Proc(1).Up()} }
	told := u.Cycle(unit.Input{Reset: [2]bool{true, false}, Tear: [2]int{5, 0}})
	// One that is reset in the same cycle isn't up, and no tear waits for it.
	if told[0].Up || !told[1].Up || up() != [2]bool{false, true} {
		t.Fatal(told)
	}
	if e := u.Flash(0).Write(0, "\xff"); e != api.OK {
		t.Fatal(e)
	}
	u.Cycle(unit.Input{Tear: [2]int{5, 0}})
	u.Cycle(unit.Input{Tear: [2]int{5, 0}})
	if told = u.Cycle(unit.Input{}); !told[0].Up || up() != [2]bool{true, true} {
		t.Fatal(told)
	}
	// A Tear of 0, or below it, is none.
	for _, tear := range []int{0, -1, -5, math.MinInt} {
		if told = u.Cycle(unit.Input{Tear: [2]int{tear, tear}}); !told[0].Up || !told[1].Up {
			t.Fatal(tear, told)
		}
	}
	for tear, want := range map[int]string{1: "", 4: "\x00\x00\x00", 25: "\x00\x00\x00\x01", math.MaxInt: "\x00\x00\x00\x01"} {
		u := unit.New(printed(t, mission()), [2]int{})
		if told = u.Cycle(unit.Input{Tear: [2]int{0, tear}}); !told[0].Up || told[1].Up || up() != [2]bool{true, true} {
			t.Fatal(tear, told)
		}
		for range 3 {
			if told = u.Cycle(unit.Input{}); told[1].Up || !u.Flash(1).Down() {
				t.Fatal(tear, told)
			}
		}
		u.Flash(1).Up()
		if s, _ := u.Flash(1).Read(0, 4); s != (want + "\xff\xff\xff\xff")[:4] {
			t.Errorf("Tear %d: %x", tear, s)
		}
	}
}

func TestNowAtItsMost(t *testing.T) {
	// With faults a cycle is the least work.
	u := unit.New("", [2]int{})
	for range 1000000 {
		u.Proc(0).Reset()
		u.Proc(1).Reset()
		u.Cycle(unit.Input{})
	}
	for range 2 {
		if u.Now() != 1000000 || u.Fired() {
			t.Fatal(u.Now())
		}
		u.Cycle(unit.Input{})
	}
}

func TestWhen(t *testing.T) {
	x := noise(5)
	s := newSim(t, mission(), &x)
	s.arm()
	terminate := proc.CommandFrame(api.CTerminate)
	in := s.both()
	in.Ground[1] = terminate
	if told := s.u.Cycle(in); told[0].Fire || !told[1].Fire || s.u.Fired() {
		t.Fatal(told)
	}
	for range 3 {
		s.u.Cycle(s.both())
	}
	in = s.both()
	in.Ground[0] = terminate
	s.u.Cycle(in)
	for range 5 {
		if s.u.When() != 7 || !s.u.Fired() {
			t.Fatal(s.u.When())
		}
		// For good, though one line is off for a while.
		s.u.Cycle(unit.Input{Reset: [2]bool{true, false}})
	}
}

// TestBothLinesInOneCycle: it isn't enough that each one was on at some time.
func TestBothLinesInOneCycle(t *testing.T) {
	x := noise(6)
	s := newSim(t, mission(), &x)
	s.arm()
	in := s.both()
	in.Ground[0] = proc.CommandFrame(api.CTerminate)
	s.u.Cycle(in)
	in = s.both()
	in.Ground[1] = proc.CommandFrame(api.CTerminate)
	in.Reset[0] = true
	for range 3 {
		if told := s.u.Cycle(in); told[0].Fire || !told[1].Fire || s.u.Fired() {
			t.Fatal(told)
		}
		in.Reset[0] = false
	}
	if s.u.Cycle(unit.Input{}); s.u.When() != 7 {
		t.Error(s.u.When())
	}
}

// TestFiredInTheFirstCycle: both are fired ahead of it, by hand.
func TestFiredInTheFirstCycle(t *testing.T) {
	u := unit.New(printed(t, mission()), [2]int{})
	for i := range 2 {
		word := frame.Print(frame.Frame{Kind: 48, Payload: peer.PrintWord(peer.Word{Wish: 1})})
		u.Proc(i).Cycle(proc.In{Ground: proc.CommandFrame(api.CArm), Peer: word})
		if out := u.Proc(i).Cycle(proc.In{Ground: proc.CommandFrame(api.CTerminate)}); !out.Fire || u.Fired() {
			t.Fatal(out)
		}
	}
	u.Cycle(unit.Input{})
	u.Cycle(unit.Input{})
	if !u.Fired() || u.When() != 1 || u.Now() != 2 {
		t.Error(u.When(), u.Now())
	}
}

// The examples of the whole

func TestOneCommandAloneArmsNobody(t *testing.T) {
	for i := range 2 {
		x := noise(7)
		s := newSim(t, mission(), &x)
		for range 9 {
			in := s.both()
			in.Ground[i] = proc.CommandFrame(api.CArm)
			if told := s.u.Cycle(in); told[0].State != api.SSafe || told[1].State != api.SSafe {
				t.Fatal(told)
			}
		}
	}
}

func TestFiredByATruthOutside(t *testing.T) {
	x := noise(8)
	s := newSim(t, mission(), &x)
	s.arm()
	s.truth.X = 5000
	for i := range 3 {
		s.u.Cycle(s.both())
		if s.u.Fired() != (i == 2) {
			t.Fatalf("cycle %d: %d", i, s.u.When())
		}
	}
	if s.u.When() != 5 {
		t.Error(s.u.When())
	}
}

func TestFiredThoughOneSourceLies(t *testing.T) {
	for liar := range 2 {
		x := noise(9)
		s := newSim(t, mission(), &x)
		s.arm()
		s.truth.X = 5000
		for i := range 2 {
			in := s.both()
			lie := proc.NavFrame(liar, api.Nav{Count: 40000 + i})
			in.Ports[0][liar], in.Ports[1][liar] = lie, lie
			s.u.Cycle(in)
			if s.u.Fired() != (i == 1) {
				t.Fatalf("cycle %d: %d", i, s.u.When())
			}
		}
	}
}

func TestAnEdgeSetsTheCountsBack(t *testing.T) {
	x := noise(10)
	s := newSim(t, mission(), &x)
	s.arm()
	for i := range 12 {
		s.truth.X = []int64{5000, 5000, 1000}[i%3]
		told := s.u.Cycle(s.both())
		if r := reportOf(t, told[0]); s.u.Fired() || r.Violations != []int{1, 2, 0}[i%3] {
			t.Fatalf("cycle %d: %+v", i, r)
		}
	}
}

func TestOneFiredAlone(t *testing.T) {
	x := noise(11)
	s := newSim(t, mission(), &x)
	s.arm()
	for i := range 20 {
		in := s.both()
		in.Ports[0] = [2]string{}
		told := s.u.Cycle(in)
		if told[0].Fire != (i >= 5) || told[1].Fire || s.u.Fired() {
			t.Fatalf("cycle %d: %v", i, told)
		}
	}
}

func TestPowerGoesAmidAWrite(t *testing.T) {
	for tear := 1; tear <= 26; tear++ {
		x := noise(12)
		s := newSim(t, mission(), &x)
		s.arm()
		in := s.both()
		in.Tear[0] = tear
		in.Ground[0] = proc.CommandFrame(api.CTerminate)
		s.u.Cycle(in)
		in = s.both()
		in.Reset[0] = true
		s.u.Cycle(in)
		s.u.Cycle(s.both())
		s.u.Cycle(s.both())
		told := s.u.Cycle(s.both())
		want := api.SArmed
		if tear > 24 {
			want = api.SFired
		}
		if !told[0].Up || told[0].State != want {
			t.Errorf("Tear %d: %v", tear, told[0])
		}
	}
}

func TestATurnedBitInTheImage(t *testing.T) {
	s := printed(t, mission())
	for at := range s {
		list := []byte(s)
		list[at] ^= 1 << (at % 8)
		u := unit.New(string(list), [2]int{})
		for range 4 {
			arm := proc.CommandFrame(api.CArm)
			told := u.Cycle(unit.Input{Ground: [2]string{arm, arm}})
			if told[0].State != api.SSafe || reportOf(t, told[1]).Faults != 1 {
				t.Fatalf("byte %d: %v", at, told)
			}
		}
	}
}

func TestNoCommandMakesItSafeInFlight(t *testing.T) {
	x := noise(13)
	s := newSim(t, mission(), &x)
	s.arm()
	safe := proc.CommandFrame(api.CSafe)
	for range 5 {
		s.truth.Z = 250
		in := s.both()
		in.Ground = [2]string{safe, safe}
		if told := s.u.Cycle(in); told[0].State != api.SArmed || told[1].State != api.SArmed {
			t.Fatal(told)
		}
	}
	// In the phase Safing it does, in the second cycle, when both know of the other one's wish.
	for s.phase(0) < 2 || s.phase(1) < 2 {
		s.truth.Z = 600
		s.u.Cycle(s.both())
	}
	in := s.both()
	in.Ground = [2]string{safe, safe}
	if told := s.u.Cycle(in); told[0].State != api.SArmed || wordOf(t, told[0]).Wish != 2 {
		t.Fatal(told)
	}
	if told := s.u.Cycle(s.both()); told[0].State != api.SSafe || told[1].State != api.SSafe {
		t.Fatal(told)
	}
}
