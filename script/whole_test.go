package script_test

import (
	"slices"
	"strings"
	"testing"

	"apogee/api"
	"apogee/frame"
	"apogee/latch"
	"apogee/peer"
	"apogee/proc"
	"apogee/rulefile"
	"apogee/script"
	"apogee/unit"
	"apogee/verdict"
)

// slot is how many bytes a record takes.
const slot = 24

func square(side int64) []api.Point {
	return []api.Point{{X: -side, Y: -side}, {X: side, Y: -side}, {X: side, Y: side}, {X: -side, Y: side}}
}

// mission are rules of three phases; what is about X 0 is inside in all of them.
func mission() api.Rules {
	phases := []api.Phase{
		{Area: square(1000), G: 2, MaxV: 90, Min: 2, Up: 300},
		{Area: square(2000), G: 3, MaxV: 80, Min: 1, Up: 400},
		{Area: square(3000), G: 4, MaxV: 75, Min: 1, Up: 500},
	}
	return api.Rules{Phases: phases, N: 3, D: 2, Green: 8, Eps: 2, Step: 20, Age: 5, Lift: 200, Safing: 2}
}

func printed(t *testing.T, r api.Rules) string {
	t.Helper()
	s, e := rulefile.Print(r)
	if e != api.OK {
		t.Fatal(e)
	}
	return s
}

func image(t *testing.T) string {
	t.Helper()
	return printed(t, mission())
}

// about is any number that is at most so far from 0.
func (x *noise) about(n int64) int64 { return int64(x.below(int(2*n+1))) - n }

// text is noise in which no frame begins.
func (x *noise) text() string {
	return strings.ReplaceAll(x.bytes(x.below(30)), "\xa5", "")
}

// lie is a nav of anything.
func (x *noise) lie() api.Nav {
	return api.Nav{
		Count: x.below(4), Flags: x.below(8) / 7, X: []int64{0, 1000, 9000, 1 << 30, 1<<30 + 1}[x.below(5)], Y: x.about(3000), Z: x.about(700),
		VX: x.about(100), VY: x.about(9), VZ: []int64{0, 50, -50, 1 << 16, 1<<16 + 1}[x.below(5)],
	}
}

// bad is what shows that a source is faulty: nothing, noise, or a nav with flags.
func (x *noise) bad(source int) string {
	n := x.lie()
	n.Flags = 1 + x.below(255)
	return []string{"", x.text(), x.text() + proc.NavFrame(source, n)}[x.below(3)]
}

// anything is what a source may ever tell.
func (x *noise) anything(source int) string {
	s := ""
	for range x.below(4) {
		s += []string{x.bad(source), "\xa5\x5a" + x.text(), proc.NavFrame(source, x.lie()), proc.NavFrame(source, x.lie())}[x.below(4)]
	}
	return s
}

// command is one of these as bytes, and at most times none.
func (x *noise) command(list ...int) string {
	if x.below(6) > 0 {
		return x.text()
	}
	return proc.CommandFrame(list[x.below(len(list))])
}

// flight is a script that is written cycle by cycle, what a unit tells of it, and the truth.
type flight struct {
	t     *testing.T
	x     *noise
	r     api.Rules
	setup script.Setup
	u     *unit.Unit
	truth api.Nav
	count int
}

func newFlight(t *testing.T, r api.Rules, x *noise) *flight {
	t.Helper()
	s := script.Setup{Image: printed(t, r)}
	return &flight{t: t, x: x, r: r, setup: s, u: unit.New(s.Image, s.Port), count: x.below(65536)}
}

func (f *flight) cycle(in unit.Input) [2]proc.Out {
	f.setup.List = append(f.setup.List, in)
	return f.u.Cycle(in)
}

// lands runs all of the script, as bytes: it should tell the same.
func (f *flight) lands() {
	f.t.Helper()
	s, e := script.Print(f.setup)
	if e != api.OK {
		f.t.Fatalf("a script of %d cycles: %d", len(f.setup.List), e)
	}
	if expectRun(f.t, f.setup); script.Fired(s) != f.u.When() {
		f.t.Fatalf("Fired: %d, want %d", script.Fired(s), f.u.When())
	}
}

func (f *flight) kept(i int) latch.Record {
	r, _ := f.u.Proc(i).Kept()
	return r
}

func (f *flight) areArmed() bool {
	return f.u.Proc(0).Up() && f.u.Proc(1).Up() && f.kept(0).State == api.SArmed && f.kept(1).State == api.SArmed
}

// verdict is that of the truth with 2 Eps, in a phase.
func (f *flight) verdict(phase int) int {
	return verdict.Of(f.truth, f.r.Phases[phase], 2*f.r.Eps)
}

// fly lets the truth go on, with speeds that change by at most Step less 2 Eps; inside for sure, in all phases, if it must be.
func (f *flight) fly(inside bool) {
	change := f.r.Step - 2*f.r.Eps
	for range 30 {
		was := f.truth
		for _, v := range []*int64{&f.truth.VX, &f.truth.VY, &f.truth.VZ} {
			*v = max(-60, min(60, *v+[]int64{change, -change, f.x.about(change)}[f.x.below(3)]))
		}
		f.truth.X, f.truth.Y, f.truth.Z = was.X+f.truth.VX, was.Y+f.truth.VY, max(0, was.Z+f.truth.VZ)
		isInside := true
		for i := range f.r.Phases {
			isInside = isInside && f.verdict(i) == api.VOk
		}
		if isInside || !inside {
			return
		}
		f.truth = was
	}
}

// good is the frame of a source that tells the truth within Eps.
func (f *flight) good(source int) string {
	n, eps := f.truth, f.r.Eps
	for _, p := range []*int64{&n.X, &n.Y, &n.Z, &n.VX, &n.VY, &n.VZ} {
		*p += []int64{eps, -eps, f.x.about(eps)}[f.x.below(3)]
	}
	f.count = (f.count + 1 + f.x.below(3)) % 65536
	n.Count = f.count
	return proc.NavFrame(source, n)
}

// both is an input of both processors, whose sources all tell the truth.
func (f *flight) both() unit.Input {
	var in unit.Input
	for i := range 2 {
		in.Ports[i] = [2]string{f.good(0), f.good(1)}
	}
	return in
}

// arm lets both be armed, on the ground.
func (f *flight) arm() {
	f.t.Helper()
	in := f.both()
	in.Ground = [2]string{proc.CommandFrame(api.CArm), proc.CommandFrame(api.CArm)}
	f.cycle(in)
	f.cycle(f.both())
	if !f.areArmed() {
		f.t.Fatal("not armed")
	}
}

// told is an input of which one source of each processor tells the truth, and words are lost.
func (f *flight) told(good [2]int, other func(source int) string) unit.Input {
	var in unit.Input
	for i := range 2 {
		in.Ports[i][good[i]], in.Ports[i][1-good[i]] = f.good(good[i]), other(1-good[i])
		in.Link[i] = []int{0, 0, 0, 1, 2}[f.x.below(5)]
		in.Ground[i] = f.x.command(api.CArm, api.CNone)
	}
	return in
}

// calm lets it fly inside till both are armed, and some cycles more.
func (f *flight) calm(good [2]int) {
	for more := f.x.below(20); more > 0 || !f.areArmed() && len(f.setup.List) < 50; more-- {
		f.fly(true)
		in := f.told(good, f.x.bad)
		in.Ground = [2]string{proc.CommandFrame(api.CArm), proc.CommandFrame(api.CArm)}
		f.cycle(in)
	}
}

// outside lets the truth be outside for so many cycles, with a reset of one processor in one of them, if that is there: false, if it isn't so for sure, or not in one phase.
func (f *flight) outside(good [2]int, cycles, resetAt, which int) bool {
	phases := [2]int{f.kept(0).Phase, f.kept(1).Phase}
	for cycle := range cycles {
		f.fly(false)
		f.truth.X = 9000 + f.x.about(2000)
		for i, phase := range phases {
			if f.kept(i).Phase != phase || f.verdict(phase) != api.VViolate {
				return false
			}
		}
		in := f.told(good, f.x.anything)
		in.Reset[which] = cycle == resetAt
		f.cycle(in)
	}
	return true
}

// P1

func TestP1Must(t *testing.T) {
	x := noise(123456789)
	must, later := 0, 0
	for range 250 {
		r := mission()
		r.N, r.D, r.Green = 1+x.below(6), 1+x.below(6), 30
		f := newFlight(t, r, &x)
		good := [2]int{x.below(2), x.below(2)}
		f.truth.Z = int64(x.below(3) * 250)
		f.calm(good)
		if !f.areArmed() || f.u.Fired() || !f.outside(good, r.N+r.D-1, -1, 0) {
			continue
		}
		must++
		if f.kept(0).Phase > 0 {
			later++
		}
		if !f.u.Fired() {
			t.Fatalf("N %d, D %d: it hasn't fired", r.N, r.D)
		}
		f.lands()
	}
	if must < 100 || later < 20 {
		t.Errorf("it had to fire %d times, %d in a later phase", must, later)
	}
}

// TestP1WithOneReset: then it has three cycles later, wherever the reset comes.
func TestP1WithOneReset(t *testing.T) {
	x := noise(2463534242)
	must := 0
	for range 250 {
		r := mission()
		r.N, r.D, r.Green = 1+x.below(6), 1+x.below(6), 30
		f := newFlight(t, r, &x)
		good := [2]int{x.below(2), x.below(2)}
		f.calm(good)
		if !f.areArmed() || f.u.Fired() || !f.outside(good, r.N+r.D+2, x.below(r.N+r.D-1), x.below(2)) {
			continue
		}
		must++
		if !f.u.Fired() {
			t.Fatalf("N %d, D %d: it hasn't fired", r.N, r.D)
		}
		f.lands()
	}
	if must < 100 {
		t.Errorf("it had to fire %d times", must)
	}
}

// P2

// TestP2MustNot: all is so of one processor, or of both; to the other one anything may come.
func TestP2MustNot(t *testing.T) {
	x := noise(987654321)
	armed, otherFired := 0, 0
	for round := range 200 {
		f := newFlight(t, mission(), &x)
		isGood := [2]bool{true, round%2 == 0}
		quiet := [2]int{}
		for range 60 {
			f.fly(true)
			var in unit.Input
			for i := range 2 {
				if !isGood[i] {
					in.Ports[i] = [2]string{x.anything(0), x.anything(1)}
					in.Ground[i] = x.command(api.CArm, api.CArm, api.CSafe, api.CTerminate)
					in.Reset[i], in.Tear[i] = x.below(20) == 0, x.below(20)/19*x.below(27)
					continue
				}
				list := [2]string{x.bad(0), x.bad(1)}
				if quiet[i] >= 3 || x.below(3) > 0 {
					source := x.below(2)
					list[source] = x.text() + f.good(source)
				}
				in.Ports[i] = list
				in.Ground[i] = x.command(api.CArm, api.CArm, api.CArm, api.CSafe)
				in.Reset[i] = quiet[i] == 0 && x.below(20) == 0
				if quiet[i] == 0 && !in.Reset[i] {
					in.Tear[i] = x.below(20) / 19 * x.below(27)
				}
				in.Reset[i] = in.Reset[i] || f.u.Flash(i).Down() && quiet[i] == 1
			}
			in.Link = [2]int{x.below(8) / 6, x.below(8) / 6}
			told := f.cycle(in)
			if told[0].Up && told[0].State == api.SArmed {
				armed++
			}
			for i, o := range told {
				quiet[i]++
				if o.Up && reportOf(t, o).Faults&192 != 192 {
					quiet[i] = 0
				}
				if isGood[i] && (quiet[i] >= f.r.Green || o.Fire) {
					t.Fatalf("quiet for %d cycles: %+v", quiet[i], o)
				}
				if o.Fire {
					otherFired++
				}
			}
			if f.u.Fired() {
				t.Fatal("the ordnance fired")
			}
		}
		f.lands()
	}
	if armed < 1000 || otherFired < 200 {
		t.Errorf("armed in %d cycles, the other one fired in %d", armed, otherFired)
	}
}

// P3

func reportOf(t *testing.T, o proc.Out) peer.Report {
	t.Helper()
	f, _, e := frame.Read(o.Report)
	r, e2 := peer.ReadReport(f.Payload)
	if e != api.OK || e2 != api.OK || f.Kind != 64 {
		t.Fatal(f, e, e2)
	}
	return r
}

// TestP3AnyBytesAsAScript run, or are refused with one error.
func TestP3AnyBytesAsAScript(t *testing.T) {
	x := noise(362436069)
	f := newFlight(t, mission(), &x)
	f.arm()
	for range 10 {
		f.fly(true)
		f.cycle(f.told([2]int{0, 1}, x.anything))
	}
	whole := laid(f.setup)
	ran := map[api.Errno]int{}
	for range 3000 {
		list := []byte(whole)
		for range x.below(4) {
			list[x.below(len(list))] = byte(x.below(256))
		}
		s := string(list)
		if x.below(3) == 0 {
			s = s[:x.below(len(s)+1)]
		}
		if x.below(5) == 0 {
			s = x.bytes(x.below(60))
		}
		answers, e := script.Run(s)
		told, e2 := script.Read(s)
		ran[e]++
		if e != e2 || len(answers) != 3*len(told.List) || e != api.OK && (answers != "" || script.Fired(s) != 0) {
			t.Fatalf("%x: %x, %d, %d", s, answers, e, e2)
		}
		if again, e := script.Print(told); e2 == api.OK && (again != s || e != api.OK) {
			t.Fatalf("%x is printed as %x, %d", s, again, e)
		}
	}
	if len(ran) != 3 || ran[api.OK] < 500 || ran[api.ErrShort] < 500 || ran[api.ErrForm] < 20 {
		t.Errorf("%v", ran)
	}
}

// TestP3ReportsAreReadAsWhatWasKept: with any bytes on any port.
func TestP3ReportsAreReadAsWhatWasKept(t *testing.T) {
	x := noise(192837465)
	up := 0
	for range 60 {
		f := newFlight(t, mission(), &x)
		f.arm()
		for range 40 {
			f.fly(false)
			in := f.told([2]int{0, 1}, x.anything)
			for i := range 2 {
				in.Ports[i][0] += "\xa5" + x.bytes(x.below(90))
				in.Ground[i] = x.bytes(x.below(90)) + x.command(api.CArm, api.CTerminate)
				in.Reset[i], in.Tear[i] = x.below(20) == 0, x.below(20)/19*x.below(27)
			}
			for i, o := range f.cycle(in) {
				if !o.Up {
					continue
				}
				up++
				r, kept := reportOf(t, o), f.kept(i)
				got := []int{r.Cycle, r.Phase, r.State, r.Violations, r.Disputes, r.Invalid, o.Phase, o.State}
				want := []int{kept.Cycle, kept.Phase, kept.State, kept.Violations, kept.Disputes, kept.Invalid, kept.Phase, kept.State}
				if !slices.Equal(got, want) {
					t.Fatalf("%v is told, and %v kept", got, want)
				}
			}
		}
		f.lands()
	}
	if up < 1000 {
		t.Errorf("up in %d cycles", up)
	}
}

// TestP3AFaultMakesItSafeForEver: any image, and any port.
func TestP3AFaultMakesItSafeForEver(t *testing.T) {
	x := noise(555)
	whole := image(t)
	images := []string{"", "AFTU", whole[:len(whole)-1], whole + "\x00", strings.Repeat("\xa5\x5a", 99)}
	for range 40 {
		list := []byte(whole)
		list[x.below(len(list))] ^= 1 << x.below(8)
		images = append(images, string(list))
	}
	for _, port := range []int{1, 2, 3, 5, 254, 255} {
		s := script.Setup{Image: whole, Port: [2]int{port, port}}
		expectSafe(t, &x, s)
	}
	for _, bad := range images {
		expectSafe(t, &x, script.Setup{Image: bad})
	}
}

// expectSafe lets all come that arms and fires.
func expectSafe(t *testing.T, x *noise, s script.Setup) {
	t.Helper()
	for count := range 20 {
		in := unit.Input{Reset: [2]bool{count == 9, false}}
		for i := range 2 {
			n := api.Nav{Count: count, X: 9000, Z: 900}
			in.Ports[i] = [2]string{proc.NavFrame(0, n), proc.NavFrame(1, n)}
			in.Ground[i] = proc.CommandFrame(1 + x.below(3))
		}
		s.List = append(s.List, in)
	}
	for i, b := range []byte(expectRun(t, s)) {
		if i%3 < 2 && b > 1 || i%3 == 2 && b != 0 {
			t.Fatalf("byte %d is %x", i, b)
		}
	}
}

// P4

// TestP4Kept: behind any resets and torn writes it goes on from the record of its last cycle, or of the one in which its power went.
func TestP4Kept(t *testing.T) {
	x := noise(777)
	torn := map[bool]int{}
	for range 100 {
		f := newFlight(t, mission(), &x)
		f.arm()
		var before [2]latch.Record
		// Whether all bytes of the write stand in which the power went.
		var wrote [2]bool
		for range 50 {
			f.fly(x.below(3) > 0)
			in := f.told([2]int{0, 1}, x.bad)
			for i := range 2 {
				if x.below(12) == 0 {
					in.Tear[i] = x.below(29)
				}
				in.Reset[i] = x.below(25) == 0 || !f.u.Proc(i).Up() && x.below(4) == 0
				in.Ground[i] = x.command(api.CArm, api.CSafe, api.CTerminate)
			}
			var wasUp [2]bool
			for i := range 2 {
				before[i] = f.kept(i)
				wasUp[i] = f.u.Proc(i).Up()
			}
			told := f.cycle(in)
			for i, o := range told {
				r := f.kept(i)
				if o.Up {
					// It went on by just one cycle from what it kept before.
					if r.Seq != before[i].Seq+1 || r.Cycle != before[i].Cycle+1 || r.State != o.State || before[i].State == api.SFired && o.State != api.SFired {
						t.Fatalf("from %+v to %+v", before[i], r)
					}
					wrote[i] = false
					continue
				}
				if wasUp[i] && !in.Reset[i] {
					wrote[i] = in.Tear[i] > slot
				}
				if !wasUp[i] && f.u.Proc(i).Up() {
					torn[wrote[i]]++
					if wrote[i] && r.Seq != before[i].Seq+1 || !wrote[i] && r != before[i] {
						t.Fatalf("it kept %+v, and goes on from %+v", before[i], r)
					}
					wrote[i] = false
				}
			}
		}
		f.lands()
	}
	if torn[true] < 30 || torn[false] < 100 {
		t.Errorf("%v", torn)
	}
}

// TestP4EachByte: torn behind each byte, in the cycle that arms, and in the one that fires; it is as if that cycle had been, or hadn't.
func TestP4EachByte(t *testing.T) {
	x := noise(888)
	for tear := 1; tear <= slot+3; tear++ {
		for _, command := range []int{api.CArm, api.CTerminate} {
			f := newFlight(t, mission(), &x)
			in := f.both()
			if command == api.CTerminate {
				f.arm()
				in = f.both()
				in.Ground[0] = proc.CommandFrame(command)
			} else {
				first := f.both()
				first.Ground = [2]string{proc.CommandFrame(command), proc.CommandFrame(command)}
				f.cycle(first)
			}
			was := f.kept(0)
			in.Tear[0] = tear
			f.cycle(in)
			in = f.both()
			in.Reset[0] = true
			f.cycle(in)
			f.cycle(f.both())
			f.cycle(f.both())
			now := f.kept(0)
			told := f.cycle(f.both())
			if tear > slot && (now.Seq != was.Seq+1 || now.State != was.State+1) || tear <= slot && now != was {
				t.Fatalf("Tear %d: from %+v to %+v", tear, was, now)
			}
			if !told[0].Up || told[0].Fire != (now.State == api.SFired) || told[0].State < now.State {
				t.Fatalf("Tear %d: %+v, behind %+v", tear, told[0], now)
			}
			f.lands()
		}
	}
}

// P5

// TestP5NotOnThePeersWordAlone: one is told nothing, and the other one anything.
func TestP5NotOnThePeersWordAlone(t *testing.T) {
	x := noise(999)
	changed := 0
	for round := range 100 {
		f := newFlight(t, mission(), &x)
		if round%2 == 0 {
			f.arm()
		}
		was := f.kept(0)
		f.truth.Z = int64(x.below(2) * 900)
		height := []int64{150, 250}[x.below(2)]
		for range 40 {
			f.fly(true)
			in := f.both()
			// On the ground, or too low for the next phase, it has no wish of its own for that.
			low := api.Nav{Count: f.count, Z: height}
			in.Ports[0] = [2]string{proc.NavFrame(0, low), ""}
			in.Ground[1] = x.command(api.CArm, api.CSafe, api.CTerminate)
			told := f.cycle(in)
			if told[0].State != was.State || told[0].Phase != 0 {
				t.Fatalf("from %d to %+v", was.State, told[0])
			}
			if told[1].State != was.State || told[1].Phase != 0 {
				changed++
			}
		}
		f.lands()
	}
	if changed < 100 {
		t.Errorf("the other one changed only %d times", changed)
	}
}

func TestP5NoCommandMakesItSafeInFlight(t *testing.T) {
	x := noise(1111)
	f := newFlight(t, mission(), &x)
	f.arm()
	f.truth.Z = 250
	safe := proc.CommandFrame(api.CSafe)
	for range 10 {
		in := f.both()
		in.Ground = [2]string{safe, safe}
		if told := f.cycle(in); told[0].State != api.SArmed || told[1].State != api.SArmed {
			t.Fatal(told)
		}
	}
	f.truth.Z = 700
	for range 8 {
		f.cycle(f.both())
	}
	if f.kept(0).Phase != 2 || f.kept(1).Phase != 2 || f.kept(0).State != api.SArmed {
		t.Fatal(f.kept(0))
	}
	in := f.both()
	in.Ground = [2]string{safe, safe}
	f.cycle(in)
	if told := f.cycle(f.both()); told[0].State != api.SSafe || told[1].State != api.SSafe {
		t.Fatal(told)
	}
	f.lands()
}

func TestP5TwoThatHearTheSameTellTheSame(t *testing.T) {
	x := noise(1212)
	for range 60 {
		f := newFlight(t, mission(), &x)
		for range 40 {
			f.fly(x.below(2) == 0)
			in := f.both()
			in.Ports[0][x.below(2)] += x.anything(x.below(2))
			in.Ports[1] = in.Ports[0]
			command, tear, reset := x.command(api.CArm, api.CArm, api.CSafe, api.CTerminate), x.below(30)/29*x.below(27), x.below(30) == 0
			in.Ground, in.Tear, in.Reset = [2]string{command, command}, [2]int{tear, tear}, [2]bool{reset, reset}
			if told := f.cycle(in); told[0] != told[1] {
				t.Fatalf("%+v, and %+v", told[0], told[1])
			}
		}
		f.lands()
	}
}
