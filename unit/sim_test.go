package unit_test

import (
	"strings"
	"testing"

	"apogee/api"
	"apogee/frame"
	"apogee/peer"
	"apogee/proc"
	"apogee/rulefile"
	"apogee/unit"
	"apogee/verdict"
)

func square(side int64) []api.Point {
	return []api.Point{{X: -side, Y: -side}, {X: side, Y: -side}, {X: side, Y: side}, {X: -side, Y: side}}
}

// mission are rules of three phases; what is about X 0 is inside in all of them.
func mission() api.Rules {
	phases := []api.Phase{
		{Area: square(1000), G: 2, MaxV: 90, Min: 2, Up: 300},
		{Area: square(2000), G: 3, MaxV: 80, Min: 1, Up: 400},
		{Area: square(3000), G: 4, MaxV: 70, Min: 1, Up: 500},
	}
	return api.Rules{Phases: phases, N: 3, D: 2, Green: 6, Eps: 2, Step: 20, Age: 5, Lift: 200, Safing: 2}
}

func printed(t *testing.T, r api.Rules) string {
	t.Helper()
	s, e := rulefile.Print(r)
	if e != api.OK {
		t.Fatal(e)
	}
	return s
}

type noise uint64

func (x *noise) below(n int) int {
	*x ^= *x << 13
	*x ^= *x >> 7
	*x ^= *x << 17
	return int(*x>>33) % n
}

// about is any number that is at most so far from 0.
func (x *noise) about(n int64) int64 { return int64(x.below(int(2*n+1))) - n }

// text is noise in which no frame begins.
func (x *noise) text() string {
	list := make([]byte, x.below(40))
	for i := range list {
		list[i] = byte(x.below(256))
	}
	return strings.ReplaceAll(string(list), "\xa5", "")
}

// near is a nav within eps of a truth.
func (x *noise) near(n api.Nav, eps int64) api.Nav {
	for _, p := range []*int64{&n.X, &n.Y, &n.Z, &n.VX, &n.VY, &n.VZ} {
		*p += []int64{eps, -eps, x.about(eps)}[x.below(3)]
	}
	return n
}

// lie is a nav of anything: right or wrong, far or stale or with flags.
func (x *noise) lie() api.Nav {
	return api.Nav{
		Count: x.below(4), Flags: x.below(8) / 7, X: []int64{0, 1000, 9000, 1 << 30, 1<<30 + 1}[x.below(5)], Y: x.about(3000), Z: x.about(700),
		VX: x.about(100), VY: x.about(9), VZ: []int64{0, 50, -50, 1 << 16, 1<<16 + 1}[x.below(5)],
	}
}

// bad is what shows that a source is faulty: nothing, noise, or a nav with flags.
func (x *noise) bad(source int) string {
	switch x.below(3) {
	case 0:
		return ""
	case 1:
		return x.text()
	}
	n := x.lie()
	n.Flags = 1 + x.below(255)
	return x.text() + proc.NavFrame(source, n)
}

// anything is what a source may ever tell.
func (x *noise) anything(source int) string {
	s := ""
	for range x.below(4) {
		switch x.below(4) {
		case 0:
			s += x.bad(source)
		case 1:
			s += "\xa5\x5a" + x.text()
		default:
			s += proc.NavFrame(source, x.lie())
		}
	}
	return s
}

// command is any command's bytes, at most times none.
func (x *noise) command(list ...int) string {
	if x.below(6) > 0 {
		return x.text()
	}
	return proc.CommandFrame(list[x.below(len(list))])
}

// sim is a unit, a truth that flies, and what is told of it.
type sim struct {
	t     *testing.T
	u     *unit.Unit
	r     api.Rules
	x     *noise
	truth api.Nav
	count int
}

func newSim(t *testing.T, r api.Rules, x *noise) *sim {
	t.Helper()
	u := unit.New(printed(t, r), [2]int{})
	if u == nil || u.Now() != 0 || u.Fired() || u.When() != 0 {
		t.Fatal("no unit")
	}
	return &sim{t: t, u: u, r: r, x: x, count: x.below(65536)}
}

// fly lets the truth go on by a cycle, with speeds that change by at most Step less 2 Eps, and that are kept within most.
func (s *sim) fly(most int64) api.Nav {
	n := s.truth
	change := s.r.Step - 2*s.r.Eps
	for _, v := range []*int64{&n.VX, &n.VY, &n.VZ} {
		*v = max(-most, min(most, *v+[]int64{change, -change, s.x.about(change)}[s.x.below(3)]))
	}
	n.X, n.Y, n.Z = n.X+n.VX, n.Y+n.VY, max(0, n.Z+n.VZ)
	return n
}

// good is the frame of a source that tells the truth within Eps.
func (s *sim) good(source int) string {
	n := s.x.near(s.truth, s.r.Eps)
	s.count = (s.count + 1 + s.x.below(3)) % 65536
	n.Count = s.count
	return proc.NavFrame(source, n)
}

// verdict is that of the truth with 2 Eps, in the phase that a processor has.
func (s *sim) verdict(i int) int {
	return verdict.Of(s.truth, s.r.Phases[s.phase(i)], 2*s.r.Eps)
}

func (s *sim) phase(i int) int {
	r, _ := s.u.Proc(i).Kept()
	return r.Phase
}

func (s *sim) state(i int) int {
	r, _ := s.u.Proc(i).Kept()
	return r.State
}

func (s *sim) isArmed(i int) bool { return s.u.Proc(i).Up() && s.state(i) == api.SArmed }

// both is an input of both processors that hear the truth by both sources.
func (s *sim) both() unit.Input {
	var in unit.Input
	for source := range 2 {
		one := s.good(source)
		in.Ports[0][source], in.Ports[1][source] = one, one
	}
	return in
}

// arm lets both be armed.
func (s *sim) arm() {
	s.t.Helper()
	in := s.both()
	in.Ground = [2]string{proc.CommandFrame(api.CArm), proc.CommandFrame(api.CArm)}
	s.u.Cycle(in)
	s.u.Cycle(s.both())
	if !s.isArmed(0) || !s.isArmed(1) {
		s.t.Fatal("not armed")
	}
}

// wordOf and reportOf are what an answer's frames tell.
func wordOf(t *testing.T, o proc.Out) peer.Word {
	t.Helper()
	f, _, e := frame.Read(o.Link)
	w, e2 := peer.ReadWord(f.Payload)
	if e != api.OK || e2 != api.OK || f.Kind != 48 {
		t.Fatal(f, e, e2)
	}
	return w
}

func reportOf(t *testing.T, o proc.Out) peer.Report {
	t.Helper()
	f, _, e := frame.Read(o.Report)
	r, e2 := peer.ReadReport(f.Payload)
	if e != api.OK || e2 != api.OK || f.Kind != 64 {
		t.Fatal(f, e, e2)
	}
	return r
}

// isOkIn tells whether a truth is inside for sure, in a phase.
func isOkIn(n api.Nav, p api.Phase, eps int64) bool { return verdict.Of(n, p, eps) == api.VOk }
