package proc_test

import (
	"math"
	"strings"
	"testing"

	"apogee/api"
	"apogee/flash"
	"apogee/frame"
	"apogee/latch"
	"apogee/nav"
	"apogee/peer"
	"apogee/proc"
	"apogee/rulefile"
)

// The kinds of frames.
const (
	commandKind = 32
	wordKind    = 48
	reportKind  = 64
)

// slot is how many bytes a record takes.
const slot = 24

var noRecord latch.Record

func square(side int64) []api.Point {
	return []api.Point{{X: -side, Y: -side}, {X: side, Y: -side}, {X: side, Y: side}, {X: -side, Y: side}}
}

// mission are rules of three phases: what is above X 0, and high up, is inside in all of them.
func mission() api.Rules {
	phases := []api.Phase{
		{Area: square(1000), G: 2, MaxV: 90, Min: 2, Up: 300},
		{Area: square(2000), G: 3, MaxV: 80, Min: 1, Up: 400},
		{Area: square(3000), G: 4, MaxV: 70, Min: 1, Up: 500},
	}
	return api.Rules{Phases: phases, N: 3, D: 2, Green: 4, Eps: 1, Step: 20, Age: 5, Lift: 200, Safing: 2}
}

func printed(t *testing.T, r api.Rules) string {
	t.Helper()
	s, e := rulefile.Print(r)
	if e != api.OK {
		t.Fatal(e)
	}
	return s
}

func blank(t *testing.T, size int) *flash.Flash {
	t.Helper()
	f, e := flash.New(size)
	if e != api.OK {
		t.Fatal(e)
	}
	return f
}

// framed is a payload as a frame's bytes, of any kind.
func framed(kind int, payload string) string {
	return frame.Print(frame.Frame{Kind: kind, Payload: payload})
}

func wordFrame(w peer.Word) string { return framed(wordKind, peer.PrintWord(w)) }

// A nav that is inside, one that is outside, one of which that isn't sure: all of them on the ground.
func inside() api.Nav  { return api.Nav{} }
func outside() api.Nav { return api.Nav{X: 5000} }
func unsure() api.Nav  { return api.Nav{X: 1000} }

// rig is a processor, its flash, what it should be, and a count for what is told next.
type rig struct {
	t     *testing.T
	p     *proc.Proc
	f     *flash.Flash
	m     *model
	count int
	seq   int
}

func newRig(t *testing.T, r api.Rules) *rig {
	t.Helper()
	f := blank(t, 2*slot)
	p, e := proc.New(printed(t, r), 0, f, 0)
	if p == nil || e != api.OK {
		t.Fatalf("New: %v, %d", p, e)
	}
	x := &rig{t: t, p: p, f: f, m: newModel(r)}
	x.expectUp(true)
	x.expectKept(noRecord)
	return x
}

// tells is the nav with a count of its own.
func (x *rig) tells(n api.Nav) []api.Nav {
	x.count = (x.count + 1) % 65536
	n.Count = x.count
	return []api.Nav{n}
}

// bytes are what says that.
func (h heard) bytes() proc.In {
	var in proc.In
	for i, list := range h.navs {
		for _, n := range list {
			in.Ports[i] += proc.NavFrame(i, n)
		}
	}
	in.Ground = proc.CommandFrame(h.command)
	if h.word != nil {
		in.Peer = wordFrame(*h.word)
	}
	return in
}

func (x *rig) expectUp(want bool) {
	x.t.Helper()
	if x.p.Up() != want || x.p.Faults() != 0 {
		x.t.Fatalf("Up: %v, Faults %d; want %v", x.p.Up(), x.p.Faults(), want)
	}
}

// expectKept holds what is kept against a record; the zero one stands for none.
func (x *rig) expectKept(want latch.Record) {
	x.t.Helper()
	if r, ok := x.p.Kept(); r != want || ok != (want != noRecord) {
		x.t.Fatalf("Kept: %+v, %v; want %+v", r, ok, want)
	}
}

// expectOut holds an answer against the model's, byte by byte, and what is kept, too.
func (x *rig) expectOut(got proc.Out) {
	x.t.Helper()
	state, phase := x.m.state, x.m.phase
	want := proc.Out{Up: true, State: state, Phase: phase, Fire: state == api.SFired, Link: wordFrame(x.m.word()), Report: framed(reportKind, peer.PrintReport(x.m.report()))}
	if got != want {
		x.t.Fatalf("%s; want %s", shown(got), shown(want))
	}
	x.expectUp(true)
	x.seq++
	kept := x.m.record()
	kept.Seq = x.seq
	x.expectKept(kept)
	l, _ := latch.Open(x.f, 0)
	if r, _ := l.Last(); r != kept {
		x.t.Fatalf("in the flash is %+v, want %+v", r, kept)
	}
}

// shown is an answer in words.
func shown(o proc.Out) string {
	var b strings.Builder
	word, _, _ := frame.Read(o.Link)
	w, e := peer.ReadWord(word.Payload)
	report, _, _ := frame.Read(o.Report)
	r, f := peer.ReadReport(report.Payload)
	list := []int{o.State, o.Phase, word.Kind, int(e), w.Cycle, w.Phase, w.State, w.Wish, report.Kind, int(f), r.Cycle, r.Phase, r.State, r.Violations, r.Disputes, r.Invalid, r.Verdicts[0], r.Verdicts[1], r.Faults}
	for i, n := range list {
		name := []string{"State", " Phase", "; word: kind", " errno", " cycle", " phase", " state", " wish", "; report: kind", " errno", " cycle", " phase", " state", " violations", " disputes", " invalid", " verdicts", " and", " faults"}[i]
		b.WriteString(name + " " + decimal(n))
	}
	return b.String()
}

func decimal(n int) string {
	if n < 0 {
		return "-" + decimal(-n)
	}
	if n < 10 {
		return string(rune('0' + n))
	}
	return decimal(n/10) + decimal(n%10)
}

// cycle runs one, and holds it against the model's.
func (x *rig) cycle(h heard) proc.Out {
	x.t.Helper()
	return x.feed(h, h.bytes())
}

// feed runs one cycle of bytes that should tell so.
func (x *rig) feed(h heard, in proc.In) proc.Out {
	x.t.Helper()
	x.m.run(h)
	out := x.p.Cycle(in)
	x.expectOut(out)
	return out
}

// both is what both sources tell of one nav.
func (x *rig) both(n api.Nav) heard {
	list := x.tells(n)
	return heard{navs: [2][]api.Nav{list, list}}
}

// arm makes it armed, with both sources inside.
func (x *rig) arm() {
	x.t.Helper()
	h := x.both(inside())
	h.command, h.word = api.CArm, &peer.Word{Wish: 1}
	if out := x.cycle(h); out.State != api.SArmed {
		x.t.Fatalf("not armed: %s", shown(out))
	}
}

// expectDown runs a cycle of one that isn't up.
func (x *rig) expectDown(h heard) {
	x.t.Helper()
	if got := x.p.Cycle(h.bytes()); got != (proc.Out{}) {
		x.t.Fatalf("one that isn't up tells %s", shown(got))
	}
}

// reboot resets it, and waits till it is up.
func (x *rig) reboot() {
	x.t.Helper()
	x.p.Reset()
	for range 3 {
		x.expectUp(false)
		h := x.both(outside())
		h.command, h.word = api.CTerminate, &peer.Word{Cycle: 3, State: api.SArmed, Wish: 7}
		x.expectDown(h)
	}
	x.expectUp(true)
	r, _ := x.p.Kept()
	x.seq = r.Seq
	x.m.boot(r)
}

// P24.1

func TestTheFirstCycle(t *testing.T) {
	x := newRig(t, mission())
	out := x.p.Cycle(proc.In{})
	word := framed(wordKind, peer.PrintWord(peer.Word{Cycle: 1}))
	report := framed(reportKind, peer.PrintReport(peer.Report{Cycle: 1, Verdicts: [2]int{4, 4}, Faults: 192}))
	if want := (proc.Out{Up: true, Link: word, Report: report}); out != want {
		t.Errorf("%s; want %s", shown(out), shown(want))
	}
	x.expectKept(latch.Record{Seq: 1, Cycle: 1})
}

func TestArmed(t *testing.T) {
	x := newRig(t, mission())
	// By a command and a wish, whatever else is told.
	if out := x.cycle(heard{command: api.CArm, word: &peer.Word{Wish: 1}}); out.State != api.SArmed || out.Fire {
		t.Errorf("%s", shown(out))
	}
	x = newRig(t, mission())
	x.cycle(heard{command: api.CArm})
	x.cycle(heard{})
	x.cycle(heard{word: &peer.Word{Wish: 14}})
	if out := x.cycle(heard{word: &peer.Word{State: api.SFired}}); out.State != api.SArmed {
		t.Errorf("%s", shown(out))
	}
	x = newRig(t, mission())
	for range 3 {
		x.cycle(heard{word: &peer.Word{State: api.SArmed, Wish: 15, Phase: 3}})
	}
	if out := x.cycle(heard{command: api.CTerminate}); out.State != api.SSafe {
		t.Errorf("%s", shown(out))
	}
}

func TestFiresByViolations(t *testing.T) {
	for _, other := range []heard{{}, {navs: [2][]api.Nav{nil, {{Count: 7, Flags: 1}}}}} {
		x := newRig(t, mission())
		x.arm()
		for i := range 5 {
			h := other
			h.navs[0] = x.tells(api.Nav{VX: 20*int64(i) + 20})
			h.navs[0][0].X = 5000
			if out := x.cycle(h); out.Fire != (i >= 2) {
				t.Fatalf("cycle %d: %s", i, shown(out))
			}
		}
	}
}

// TestNothingIsCountedAheadOfArming: nor in the cycle that arms.
func TestNothingIsCountedAheadOfArming(t *testing.T) {
	x := newRig(t, mission())
	for range 9 {
		x.cycle(x.both(outside()))
	}
	h := x.both(outside())
	h.command, h.word = api.CArm, &peer.Word{Wish: 1}
	x.cycle(h)
	for i := range 3 {
		if out := x.cycle(x.both(outside())); out.Fire != (i == 2) {
			t.Fatalf("cycle %d: %s", i, shown(out))
		}
	}
}

func TestFiresByDisputes(t *testing.T) {
	for first := range 2 {
		x := newRig(t, mission())
		x.arm()
		for i := range 2 {
			var h heard
			h.navs[first], h.navs[1-first] = x.tells(outside()), x.tells(inside())
			if out := x.cycle(h); out.Fire != (i == 1) {
				t.Fatalf("cycle %d: %s", i, shown(out))
			}
		}
	}
}

func TestFiresByNothingHeard(t *testing.T) {
	x := newRig(t, mission())
	x.arm()
	for range 3 {
		x.cycle(heard{})
	}
	x.cycle(x.both(unsure()))
	for i := range 4 {
		if out := x.cycle(heard{}); out.Fire != (i == 3) {
			t.Fatalf("cycle %d: %s", i, shown(out))
		}
	}
}

func TestFiresByCommand(t *testing.T) {
	x := newRig(t, mission())
	x.arm()
	h := x.both(inside())
	h.command = api.CTerminate
	if out := x.cycle(h); !out.Fire || out.State != api.SFired {
		t.Errorf("%s", shown(out))
	}
	// For ever; and what was counted is forgotten.
	for _, command := range []int{api.CSafe, api.CArm, api.CNone} {
		h := x.both(outside())
		h.command, h.word = command, &peer.Word{Wish: 2}
		if out := x.cycle(h); !out.Fire {
			t.Errorf("%s", shown(out))
		}
	}
}

func TestAnEdgeBetweenForgetsTheViolations(t *testing.T) {
	x := newRig(t, mission())
	x.arm()
	for range 4 {
		for range 2 {
			x.cycle(x.both(outside()))
		}
		if out := x.cycle(x.both(unsure())); out.Fire {
			t.Fatal(shown(out))
		}
	}
}

func TestFlight(t *testing.T) {
	flies := func(x *rig) bool { r, _ := x.p.Kept(); return r.Flight == 1 }
	x := newRig(t, mission())
	x.cycle(x.both(api.Nav{Z: 199}))
	// The lesser height counts, and none of a source with a fault does.
	x.cycle(heard{navs: [2][]api.Nav{x.tells(api.Nav{Z: 199}), x.tells(api.Nav{Z: 900})}})
	x.cycle(heard{navs: [2][]api.Nav{x.tells(api.Nav{Z: 900}), x.tells(api.Nav{Z: 199})}})
	x.cycle(heard{navs: [2][]api.Nav{{{Count: 999, Flags: 1, Z: 900}}, x.tells(api.Nav{Z: 199})}})
	x.cycle(heard{})
	if flies(x) {
		t.Fatal("in flight")
	}
	x.cycle(heard{navs: [2][]api.Nav{nil, x.tells(api.Nav{Z: 200})}})
	if !flies(x) {
		t.Fatal("not in flight")
	}
	x.cycle(x.both(inside()))
	x.cycle(heard{})
	if !flies(x) {
		t.Fatal("not in flight any more")
	}
}

func TestSafeOnTheGroundAndInFlight(t *testing.T) {
	x := newRig(t, mission())
	x.arm()
	h := x.both(inside())
	h.command, h.word = api.CSafe, &peer.Word{State: api.SArmed, Wish: 2}
	if out := x.cycle(h); out.State != api.SSafe {
		t.Fatal(shown(out))
	}
	x.arm()
	h = x.both(api.Nav{Z: 200})
	h.command, h.word = api.CSafe, &peer.Word{Wish: 2}
	if out := x.cycle(h); out.State != api.SArmed {
		t.Fatal(shown(out))
	}
	// It doesn't come into force later, either.
	h = x.both(inside())
	h.word = &peer.Word{Wish: 2}
	if out := x.cycle(h); out.State != api.SArmed {
		t.Fatal(shown(out))
	}
	// From the phase Safing on it does.
	for x.m.phase < 2 {
		h = x.both(api.Nav{Z: 500})
		h.word = &peer.Word{Phase: 3, State: api.SArmed}
		h.command = api.CSafe
		x.cycle(h)
	}
	x.cycle(heard{navs: x.both(inside()).navs, command: api.CSafe})
	if out := x.cycle(heard{navs: x.both(inside()).navs, word: &peer.Word{}}); out.State != api.SSafe {
		t.Fatal(shown(out))
	}
}

func TestPhases(t *testing.T) {
	high := func(x *rig, z int64, w *peer.Word) proc.Out {
		h := x.both(api.Nav{Z: z})
		h.word = w
		return x.cycle(h)
	}
	agrees := &peer.Word{Wish: 4}
	x := newRig(t, mission())
	// Below Lift no cycle of the phase is counted, and nothing is wished.
	for range 5 {
		high(x, 199, &peer.Word{Phase: 3, Wish: 4})
	}
	// Behind two cycles in flight, from 300 on.
	high(x, 200, agrees)
	high(x, 300, agrees)
	high(x, 299, agrees)
	high(x, 300, nil)
	high(x, 300, &peer.Word{Wish: 11})
	x.cycle(heard{word: agrees})
	if out := high(x, 300, agrees); out.Phase != 1 {
		t.Fatal(shown(out))
	}
	// The peer is behind; it is in the same phase, and doesn't wish; it is ahead.
	high(x, 500, &peer.Word{Wish: 4})
	high(x, 500, &peer.Word{Wish: 4})
	high(x, 500, &peer.Word{Phase: 1})
	if out := high(x, 399, &peer.Word{Phase: 2}); out.Phase != 1 {
		t.Fatal(shown(out))
	}
	if out := high(x, 400, &peer.Word{Phase: 2}); out.Phase != 2 {
		t.Fatal(shown(out))
	}
	for range 4 {
		high(x, 9000, &peer.Word{Phase: 3, Wish: 4})
	}
	if x.m.phase != 2 || x.m.in != 4 {
		t.Fatal(x.m.phase, x.m.in)
	}
}

// TestThePhasesOwnRules: what is outside in the phase 0 is inside in the next one.
func TestThePhasesOwnRules(t *testing.T) {
	x := newRig(t, mission())
	n := api.Nav{X: 1500, Z: 300}
	for range 3 {
		h := x.both(n)
		h.word = &peer.Word{Phase: 1}
		x.cycle(h)
		if x.m.verdicts != [2]int{api.VViolate, api.VViolate} {
			t.Fatal(x.m.verdicts)
		}
	}
	x.cycle(x.both(n))
	if x.m.phase != 1 || x.m.verdicts != [2]int{api.VOk, api.VOk} {
		t.Fatal(x.m.phase, x.m.verdicts)
	}
}

func TestReportedFaults(t *testing.T) {
	x := newRig(t, mission())
	for _, c := range []struct {
		first, second []api.Nav
		want          int
	}{
		{x.tells(api.Nav{X: 2}), x.tells(inside()), 0},
		{x.tells(api.Nav{X: 3}), x.tells(inside()), 32},
		{nil, x.tells(inside()), 64},
		{x.tells(inside()), nil, 128},
		{nil, nil, 192},
		{[]api.Nav{{Count: 60000, Flags: 1}}, x.tells(api.Nav{X: 900}), 64},
		{x.tells(api.Nav{VZ: 9}), x.tells(api.Nav{VZ: 12}), 32},
		{x.tells(inside()), []api.Nav{{Count: 60000, Z: 1<<30 + 1}}, 128},
	} {
		x.cycle(heard{navs: [2][]api.Nav{c.first, c.second}})
		if x.m.faults != c.want {
			t.Errorf("%d, want %d", x.m.faults, c.want)
		}
	}
}

// TestTheLastOneCounts: of all that comes in a cycle and can be read.
func TestTheLastOneCounts(t *testing.T) {
	x := newRig(t, mission())
	arm, safe := proc.CommandFrame(api.CArm), proc.CommandFrame(api.CSafe)
	wish, none := wordFrame(peer.Word{Wish: 1}), wordFrame(peer.Word{})
	x.feed(heard{command: api.CSafe, word: &peer.Word{Wish: 1}}, proc.In{Ground: arm + arm + safe, Peer: none + wish})
	x.feed(heard{command: api.CArm, word: &peer.Word{}}, proc.In{Ground: safe + arm, Peer: wish + none})
	x.feed(heard{command: api.CArm, word: &peer.Word{Wish: 1}}, proc.In{Ground: arm + wish, Peer: wish + safe})
	if x.m.state != api.SArmed {
		t.Fatal(x.m.state)
	}
	a, b := x.tells(outside()), x.tells(inside())
	x.feed(heard{navs: [2][]api.Nav{b, b}}, proc.In{Ports: [2]string{proc.NavFrame(0, a[0]) + proc.NavFrame(0, b[0]), proc.NavFrame(1, a[0]) + proc.NavFrame(1, b[0])}})
}

// TestWhatIsNotMeant: frames of another kind, or on another line, frames that can't be read, and noise.
func TestWhatIsNotMeant(t *testing.T) {
	arm, wish := proc.CommandFrame(api.CArm), wordFrame(peer.Word{Wish: 1})
	n := api.Nav{Count: 9, X: 5000}
	for i, in := range []proc.In{
		{Ground: wish, Peer: arm},
		{Ground: proc.NavFrame(0, n), Peer: proc.NavFrame(1, n)},
		{Ports: [2]string{arm + wish, wish + arm}},
		{Ports: [2]string{proc.NavFrame(1, n), proc.NavFrame(0, n)}},
		{Ground: framed(reportKind, peer.PrintReport(peer.Report{})), Peer: framed(reportKind, peer.PrintReport(peer.Report{}))},
		{Ground: framed(33, peer.PrintCommand(api.CArm)), Peer: framed(49, peer.PrintWord(peer.Word{Wish: 1}))},
		{Ground: framed(commandKind, peer.PrintWord(peer.Word{})), Peer: framed(wordKind, peer.PrintCommand(api.CArm))},
		{Ground: framed(commandKind, "\x01\x54\xab\xfe\x00\x00\x00\x00"), Peer: framed(wordKind, "")},
		{Ports: [2]string{framed(16, nav.Print(n)[:26]), framed(17, nav.Print(n)+"\x00")}},
		{Ports: [2]string{framed(18, nav.Print(n)), framed(15, nav.Print(n))}},
		{Ports: [2]string{"noise", strings.Repeat("\xa5\x5a\x10", 99)}, Ground: "\xa5\x5a\x20\x08", Peer: strings.Repeat("\x00", 3000)},
	} {
		x := newRig(t, mission())
		x.feed(heard{}, in)
		x.cycle(heard{command: api.CArm})
		if x.m.state != api.SSafe || x.m.faults != 192 {
			t.Errorf("%d: %d, %d", i, x.m.state, x.m.faults)
		}
	}
	// What can't be read leaves what can be.
	x := newRig(t, mission())
	x.feed(heard{command: api.CArm, word: &peer.Word{Wish: 1}}, proc.In{Ground: arm + framed(commandKind, "x"), Peer: wish + framed(wordKind, "x")})
	if x.m.state != api.SArmed {
		t.Error(x.m.state)
	}
	list := x.tells(inside())
	x.feed(heard{navs: [2][]api.Nav{list, nil}}, proc.In{Ports: [2]string{proc.NavFrame(0, list[0]) + framed(16, "x")}})
}

// TestFramesInPieces: each of the four streams goes on from one cycle to the next.
func TestFramesInPieces(t *testing.T) {
	x := newRig(t, mission())
	whole := x.both(api.Nav{X: 7})
	whole.command, whole.word = api.CArm, &peer.Word{Wish: 1}
	in := whole.bytes()
	cut := func(s string, n int) (string, string) { return s[:n], s[n:] }
	var a, b proc.In
	a.Ports[0], b.Ports[0] = cut("\xa5"+in.Ports[0], 1)
	a.Ports[1], b.Ports[1] = cut(in.Ports[1], 20)
	a.Ground, b.Ground = cut("zz"+in.Ground, 5)
	a.Peer, b.Peer = cut(in.Peer, len(in.Peer)-1)
	x.feed(heard{}, a)
	x.feed(heard{}, proc.In{})
	x.feed(whole, b)
	if x.m.state != api.SArmed || x.m.faults != 0 {
		t.Error(x.m.state, x.m.faults)
	}
}

func TestNewRefuses(t *testing.T) {
	s := printed(t, mission())
	down := blank(t, 2*slot)
	down.Tear(0)
	down.Write(0, "x")
	for _, image := range []string{s, "", s[:len(s)-1]} {
		for _, port := range []int{0, 1, 2} {
			for i, c := range []struct {
				f    *flash.Flash
				base int
				want api.Errno
			}{
				{nil, 0, api.ErrNil}, {nil, -1, api.ErrNil}, {down, 0, api.ErrDown}, {down, -1, api.ErrDown},
				{blank(t, 2*slot), -1, api.ErrRange}, {blank(t, 2*slot), 1, api.ErrRange}, {blank(t, 2*slot-1), 0, api.ErrRange}, {blank(t, 99), 52, api.ErrRange},
				{blank(t, 99), math.MaxInt, api.ErrRange}, {blank(t, 99), math.MinInt, api.ErrRange},
			} {
				if p, e := proc.New(image, port, c.f, c.base); p != nil || e != c.want {
					t.Errorf("%d: %v, %d; want %d", i, p, e, c.want)
				}
			}
		}
	}
}

// TestBase: two processors may have one flash, each its own part of it.
func TestBase(t *testing.T) {
	f := blank(t, 99)
	a, _ := proc.New(printed(t, mission()), 0, f, 0)
	b, e := proc.New(printed(t, mission()), 0, f, 51)
	if a == nil || b == nil || e != api.OK {
		t.Fatal(e)
	}
	a.Cycle(proc.In{})
	for range 5 {
		b.Cycle(proc.In{})
	}
	l, _ := latch.Open(f, 0)
	m, _ := latch.Open(f, 51)
	first, _ := l.Last()
	second, _ := m.Last()
	if first.Cycle != 1 || second.Cycle != 5 {
		t.Error(first, second)
	}
	if r, ok := b.Kept(); !ok || r != second {
		t.Error(r)
	}
	if s, _ := f.Read(48, 3); s != "\xff\xff\xff" {
		t.Errorf("%x", s)
	}
}

func TestReset(t *testing.T) {
	x := newRig(t, mission())
	x.arm()
	x.cycle(x.both(outside()))
	kept, _ := x.p.Kept()
	for i := range 3 {
		if i == 2 {
			// One more amid a reset begins it anew.
			x.p.Cycle(proc.In{})
			x.p.Cycle(proc.In{})
		}
		x.p.Reset()
		x.expectKept(kept)
		x.p.Cycle(proc.In{})
		x.expectUp(false)
		x.expectKept(kept)
	}
	x.reboot()
	x.expectKept(kept)
	// It goes on from what it kept: two more violations fire.
	x.cycle(x.both(outside()))
	if out := x.cycle(x.both(outside())); !out.Fire || out.State != api.SFired {
		t.Fatal(shown(out))
	}
	x.reboot()
	if out := x.cycle(heard{}); !out.Fire {
		t.Fatal(shown(out))
	}
}

// TestResetOfOneThatKeptNothing begins as a new one.
func TestResetOfOneThatKeptNothing(t *testing.T) {
	x := newRig(t, mission())
	x.reboot()
	x.expectKept(noRecord)
	x.cycle(x.both(inside()))
	if x.m.cycle != 1 {
		t.Error(x.m.cycle)
	}
}

// TestAResetForgetsWhatIsNotKept: beginnings of frames, what the sources told last, and wishes.
func TestAResetForgetsWhatIsNotKept(t *testing.T) {
	x := newRig(t, mission())
	h := x.both(api.Nav{VX: 80})
	h.command = api.CArm
	x.cycle(h)
	last := h.navs[0][0]
	next := api.Nav{Count: last.Count, VX: -80}
	in := heard{navs: [2][]api.Nav{{next}, {next}}}.bytes()
	x.feed(heard{}, proc.In{Ports: [2]string{in.Ports[0][:9], in.Ports[1][:9]}, Ground: "\xa5", Peer: "\xa5\x5a"})
	x.reboot()
	x.feed(heard{word: &peer.Word{Wish: 1}}, proc.In{Ports: [2]string{in.Ports[0][9:], in.Ports[1][9:]}, Ground: proc.CommandFrame(api.CArm)[1:], Peer: wordFrame(peer.Word{Wish: 1})})
	// Neither stale, nor too fast a change.
	x.cycle(heard{navs: [2][]api.Nav{{next}, {next}}})
	if x.m.faults != 0 || x.m.state != api.SSafe {
		t.Error(x.m.faults, x.m.state)
	}
}

// holding is a flash with a record in its first slot.
func holding(t *testing.T, r latch.Record) *flash.Flash {
	t.Helper()
	f := blank(t, 2*slot)
	if s := latch.Print(r); s == "" || f.Write(0, s) != api.OK {
		t.Fatalf("%v may not be", r)
	}
	return f
}

// from is a rig that goes on from a record.
func from(t *testing.T, r latch.Record) *rig {
	t.Helper()
	f := holding(t, r)
	p, e := proc.New(printed(t, mission()), 0, f, 0)
	if e != api.OK {
		t.Fatal(e)
	}
	x := &rig{t: t, p: p, f: f, m: newModel(mission()), seq: r.Seq}
	x.m.boot(r)
	x.expectKept(r)
	return x
}

func TestBootsFromWhatIsKept(t *testing.T) {
	for _, r := range []latch.Record{
		{Seq: 1},
		{Seq: 7, Cycle: 55, Phase: 1, State: api.SArmed, Flight: 1, Violations: 2, Disputes: 1, Invalid: 3, InPhase: 9},
		{Seq: 1000, Cycle: 999999, Phase: 2, State: api.SFired, InPhase: 999999},
		{Seq: 3, Cycle: 1000000, Flight: 1, InPhase: 1000000},
		{Seq: 9, State: api.SArmed, Violations: 2},
		{Seq: 9, State: api.SArmed, Disputes: 1},
		{Seq: 9, State: api.SArmed, Invalid: 3},
	} {
		for _, n := range []api.Nav{inside(), outside(), unsure()} {
			x := from(t, r)
			x.cycle(heard{})
			x = from(t, r)
			x.cycle(heard{navs: [2][]api.Nav{x.tells(n), x.tells(inside())}})
			x.cycle(x.both(n))
			x.reboot()
			x.cycle(x.both(n))
		}
	}
}

// TestTheGreatestCycle: cycles are counted up to 1000000, and so are those in a phase.
func TestTheGreatestCycle(t *testing.T) {
	x := from(t, latch.Record{Seq: 5, Cycle: 999998, Flight: 1, InPhase: 999999})
	for range 4 {
		x.cycle(heard{})
	}
	if x.m.cycle != 1000000 || x.m.in != 1000000 {
		t.Error(x.m.cycle, x.m.in)
	}
}

// TestWhatIsKeptOfOtherRules: a phase that there isn't can't be taken, nor more than a limit.
func TestWhatIsKeptOfOtherRules(t *testing.T) {
	r := latch.Record{Seq: 5, Cycle: 9, Phase: 3, State: api.SArmed, Flight: 1, Violations: 255, Disputes: 0, Invalid: 0, InPhase: 7}
	x := from(t, r)
	x.m.phase, x.m.in, x.m.counts = 0, 0, [3]int{3, 0, 0}
	if out := x.cycle(x.both(outside())); !out.Fire {
		t.Error(shown(out))
	}
}

// TestNoSeqIsLeft: what can't be saved is never told.
func TestNoSeqIsLeft(t *testing.T) {
	x := from(t, latch.Record{Seq: 1 << 31, State: api.SFired})
	for range 3 {
		if out := x.p.Cycle(proc.In{}); out != (proc.Out{}) || x.p.Up() {
			t.Fatal(shown(out))
		}
	}
	x.reboot()
	if out := x.p.Cycle(proc.In{}); out != (proc.Out{}) || x.p.Up() {
		t.Fatal(shown(out))
	}
}

func TestFramesOfCommandsAndNavs(t *testing.T) {
	for command := -2; command < 7; command++ {
		want := ""
		if command >= 1 && command <= 3 {
			want = framed(32, peer.PrintCommand(command))
		}
		if got := proc.CommandFrame(command); got != want {
			t.Errorf("CommandFrame of %d: %x, want %x", command, got, want)
		}
	}
	if got := proc.CommandFrame(1)[:8]; got != "\xa5\x5a\x20\x08\x01\x54\xab\xfe" {
		t.Errorf("%x", got)
	}
	n := api.Nav{Count: 1, X: -1, Z: 1 << 30}
	for source := -2; source < 5; source++ {
		want := ""
		if source == 0 || source == 1 {
			want = framed(16+source, nav.Print(n))
		}
		if got := proc.NavFrame(source, n); got != want {
			t.Errorf("NavFrame of %d: %x, want %x", source, got, want)
		}
		for _, wrong := range []api.Nav{{Count: -1}, {Count: 65536}, {Flags: 256}, {X: 1 << 31}, {VZ: math.MinInt64}} {
			if got := proc.NavFrame(source, wrong); got != "" {
				t.Errorf("NavFrame of %d, %v: %x", source, wrong, got)
			}
		}
	}
}

func TestOfNone(t *testing.T) {
	var p *proc.Proc
	p.Reset()
	for range 5 {
		if out := p.Cycle(proc.In{Ground: proc.CommandFrame(1), Peer: wordFrame(peer.Word{Wish: 1})}); out != (proc.Out{}) {
			t.Error(out)
		}
	}
	if r, ok := p.Kept(); ok || r != noRecord || p.Faults() != 0 || p.Up() {
		t.Error(r, ok, p.Faults(), p.Up())
	}
}

// P24.2

// TestEachTear: behind a write that is torn anywhere it goes on from the record ahead, or from the torn one, if all of it stands.
func TestEachTear(t *testing.T) {
	for tear := range slot + 3 {
		for ahead := range 4 {
			x := newRig(t, mission())
			x.arm()
			for range ahead {
				x.cycle(x.both(unsure()))
			}
			kept, _ := x.p.Kept()
			h := x.both(inside())
			h.command = api.CTerminate
			x.f.Tear(tear)
			x.m.run(h)
			x.expectDown(h)
			x.expectUp(false)
			x.expectKept(kept)
			// Without a reset it stays so.
			for range 5 {
				x.expectDown(x.both(inside()))
			}
			x.f.Up()
			x.expectDown(x.both(inside()))
			want := kept
			if tear >= slot {
				want = x.m.record()
				want.Seq = kept.Seq + 1
			}
			x.reboot()
			x.expectKept(want)
			out := x.cycle(x.both(inside()))
			if out.Fire != (tear >= slot) {
				t.Fatalf("torn behind %d: %s", tear, shown(out))
			}
		}
	}
}

// TestATearThatWaitsIsForgotten: it has power behind a reset, and no tear waits.
func TestATearThatWaitsIsForgotten(t *testing.T) {
	x := newRig(t, mission())
	x.arm()
	x.p.Reset()
	x.f.Tear(3)
	x.reboot()
	if out := x.cycle(x.both(inside())); out.State != api.SArmed || x.f.Down() {
		t.Error(shown(out))
	}
}

// TestPowerComesWithTheThirdCycle: not ahead of it.
func TestPowerComesWithTheThirdCycle(t *testing.T) {
	x := newRig(t, mission())
	x.f.Tear(0)
	x.expectDown(heard{})
	x.p.Reset()
	for i := range 3 {
		if !x.f.Down() || x.p.Up() {
			t.Fatalf("up ahead of the cycle %d", i)
		}
		x.expectDown(heard{})
	}
	if x.f.Down() || !x.p.Up() {
		t.Error("not up")
	}
}

// P24.3

func TestFaultsLockIt(t *testing.T) {
	s := printed(t, mission())
	turned := []byte(s)
	turned[40] ^= 1
	for _, c := range []struct {
		image string
		port  int
		want  int
	}{{s, 1, 2}, {s, 2, 4}, {s, 3, 6}, {string(turned), 0, 1}, {"", 0, 1}, {s[1:], 7, 7}} {
		kept := latch.Record{Seq: 5, Cycle: 77, Phase: 1, State: api.SFired, Flight: 1, Violations: 2, InPhase: 3}
		f := holding(t, kept)
		bytes, _ := f.Read(0, 2*slot)
		p, e := proc.New(c.image, c.port, f, 0)
		if e != api.OK {
			t.Fatal(e)
		}
		for turn := range 3 {
			expectLocked(t, p, c.want)
			p.Reset()
			for range 3 {
				if out := p.Cycle(proc.In{}); out != (proc.Out{}) || p.Faults() != c.want {
					t.Fatalf("turn %d: %s", turn, shown(out))
				}
			}
		}
		if now, _ := f.Read(0, 2*slot); now != bytes || f.Writes() != 1 {
			t.Errorf("%x was written", now)
		}
	}
}

// expectLocked runs it through all that would arm and fire it.
func expectLocked(t *testing.T, p *proc.Proc, faults int) {
	t.Helper()
	for cycle := 1; cycle <= 9; cycle++ {
		n := api.Nav{Count: cycle, X: 5000, Z: 900}
		h := heard{navs: [2][]api.Nav{{n}, {n}}, command: api.CArm + cycle%2*2, word: &peer.Word{Wish: 15, State: api.SArmed, Phase: 3}}
		word := wordFrame(peer.Word{Cycle: cycle})
		report := framed(reportKind, peer.PrintReport(peer.Report{Cycle: cycle, Faults: faults}))
		if got, want := p.Cycle(h.bytes()), (proc.Out{Up: true, Link: word, Report: report}); got != want {
			t.Fatalf("%s; want %s", shown(got), shown(want))
		}
		if r, ok := p.Kept(); ok || r != noRecord || p.Faults() != faults || !p.Up() {
			t.Fatal(r, ok, p.Faults(), p.Up())
		}
	}
}

// All together

type noise uint64

func (x *noise) below(n int) int {
	*x ^= *x << 13
	*x ^= *x >> 7
	*x ^= *x << 17
	return int(*x>>33) % n
}

func (x *noise) text(length int) string {
	list := make([]byte, length)
	for i := range list {
		list[i] = "\xa5\x5a\x10\x11\x20\x30\x00\x01\x08\x1b"[x.below(10)]
	}
	return string(list)
}

// anyHeard is what may come: both sources are near one another at most times, and high or low.
func (x *rig) anyHeard(n *noise) heard {
	var h heard
	for i := range h.navs {
		for range n.below(8) % 3 {
			z, px := []int64{0, 150, 199, 200, 300, 400, 600}[n.below(7)], []int64{0, 0, 0, 990, 1000, 1500, 5000}[n.below(7)]
			one := x.tells(api.Nav{X: px, Z: z + int64(n.below(3)), VX: int64(n.below(9)), Flags: n.below(20) / 19})
			if n.below(30) == 0 {
				one[0].Count = 1
			}
			h.navs[i] = append(h.navs[i], one...)
		}
	}
	if n.below(4) == 0 {
		h.command = []int{api.CArm, api.CArm, api.CArm, api.CArm, api.CSafe, api.CTerminate}[n.below(6)]
	}
	if n.below(3) > 0 {
		h.word = &peer.Word{Cycle: n.below(1000), Phase: x.m.phase, State: n.below(3), Wish: n.below(16)}
		if n.below(5) == 0 {
			h.word.Phase = n.below(4)
		}
	}
	return h
}

// TestAnyCycles: any inputs, with noise ahead of them and behind, resets and tears, against what the chapter says.
func TestAnyCycles(t *testing.T) {
	n := noise(88172645463325252)
	states, phases := map[int]int{}, map[int]int{}
	for range 250 {
		x := newRig(t, mission())
		for range 60 {
			h := x.anyHeard(&n)
			switch n.below(40) {
			case 0:
				x.reboot()
			case 1:
				x.tornCycle(h, n.below(slot+2))
			default:
				in := h.bytes()
				for _, s := range []*string{&in.Ports[0], &in.Ports[1], &in.Ground, &in.Peer} {
					// Noise that is no beginning of a frame.
					*s = strings.ReplaceAll(n.text(n.below(9)), "\xa5", "\x5a") + *s + strings.ReplaceAll(n.text(n.below(5)), "\xa5", "")
				}
				x.feed(h, in)
			}
			states[x.m.state]++
			phases[x.m.phase]++
		}
	}
	for i := range 3 {
		if states[i] < 500 || phases[i] < 500 {
			t.Errorf("states %v, phases %v", states, phases)
		}
	}
}

// tornCycle is one in which the power goes, and then a reset.
func (x *rig) tornCycle(h heard, tear int) {
	x.t.Helper()
	kept, _ := x.p.Kept()
	x.m.run(h)
	x.f.Tear(tear)
	x.expectDown(h)
	want := kept
	if tear >= slot {
		want = x.m.record()
		want.Seq = kept.Seq + 1
	}
	x.reboot()
	x.expectKept(want)
}

// TestAnyBytes: any bytes on any line run, and each report is read as what was kept.
func TestAnyBytes(t *testing.T) {
	n := noise(2463534242)
	for range 100 {
		x := newRig(t, mission())
		for range 40 {
			in := proc.In{Ports: [2]string{n.text(n.below(90)), n.text(n.below(90))}, Ground: n.text(n.below(90)), Peer: n.text(n.below(90))}
			out := x.p.Cycle(in)
			f, _, e := frame.Read(out.Report)
			r, e2 := peer.ReadReport(f.Payload)
			kept, ok := x.p.Kept()
			if e != api.OK || e2 != api.OK || !ok || f.Kind != reportKind {
				t.Fatal(e, e2, ok, f.Kind)
			}
			if r.Cycle != kept.Cycle || r.Phase != kept.Phase || r.State != kept.State || r.Violations != kept.Violations || r.Disputes != kept.Disputes || r.Invalid != kept.Invalid {
				t.Fatal(r, kept)
			}
		}
	}
}

// TestTheSameTellTheSame: what it tells hangs on what came to it alone.
func TestTheSameTellTheSame(t *testing.T) {
	n := noise(362436069)
	a, b := newRig(t, mission()), newRig(t, mission())
	for range 200 {
		in := a.anyHeard(&n).bytes()
		first, second := a.p.Cycle(in), b.p.Cycle(in)
		if first != second {
			t.Fatalf("%s, and %s", shown(first), shown(second))
		}
	}
}
