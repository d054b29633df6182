package unit_test

import (
	"testing"

	"apogee/api"
	"apogee/proc"
	"apogee/unit"
)

// P25.2

func TestTheOrdnanceFiresOnlyWhereBothAreFired(t *testing.T) {
	x := noise(2463534242)
	fired, alone := 0, 0
	for range 200 {
		s := newSim(t, mission(), &x)
		was := false
		for range 50 {
			s.truth = s.fly(30)
			in := s.both()
			for i := range 2 {
				if x.below(3) == 0 {
					in.Ports[i] = [2]string{x.anything(0), x.anything(1)}
				}
				in.Ground[i] = x.command(api.CArm, api.CArm, api.CTerminate, api.CSafe)
				in.Link[i] = x.below(8) / 6
				in.Reset[i] = x.below(40) == 0
			}
			told := s.u.Cycle(in)
			both := told[0].State == api.SFired && told[1].State == api.SFired
			if s.u.Fired() != (was || both) || told[0].Fire != (told[0].State == api.SFired) {
				t.Fatalf("Fired %v, by %v and %v", s.u.Fired(), told[0], told[1])
			}
			was = s.u.Fired()
			if told[0].Fire != told[1].Fire {
				alone++
			}
		}
		if was {
			fired++
		}
	}
	if fired < 20 || alone < 20 {
		t.Errorf("%d fired, and one processor was %d times fired alone", fired, alone)
	}
}

func TestTwoThatHearTheSameTellTheSame(t *testing.T) {
	x := noise(362436069)
	armed := 0
	for range 100 {
		s := newSim(t, mission(), &x)
		for range 60 {
			s.truth = s.fly(30)
			in := s.both()
			if x.below(4) == 0 {
				in.Ports[0] = [2]string{x.anything(0), x.anything(1)}
			}
			in.Ports[1] = in.Ports[0]
			command := x.command(api.CArm, api.CArm, api.CArm, api.CSafe, api.CTerminate)
			link, reset, tear := x.below(9)/7, x.below(40) == 0, x.below(40)/39*x.below(27)
			in.Ground, in.Link, in.Reset, in.Tear = [2]string{command, command}, [2]int{link, link}, [2]bool{reset, reset}, [2]int{tear, tear}
			told := s.u.Cycle(in)
			if told[0] != told[1] {
				t.Fatalf("%+v, and %+v", told[0], told[1])
			}
			if told[0].State == api.SArmed {
				armed++
			}
		}
	}
	if armed < 500 {
		t.Errorf("only %d times armed", armed)
	}
}

// P25.3

// told is an input in which one source of each processor tells the truth, with an error, and the other one tells something; words are lost, and come with a turned bit.
func (s *sim) told(good [2]int, other func(source int) string) unit.Input {
	var in unit.Input
	for i := range 2 {
		in.Ports[i][good[i]] = s.good(good[i])
		in.Ports[i][1-good[i]] = other(1 - good[i])
		in.Link[i] = []int{0, 0, 0, 1, 2}[s.x.below(5)]
		in.Ground[i] = s.x.command(api.CArm, api.CNone)
	}
	return in
}

// calm lets it fly inside for a while, and be armed; with a reset or two.
func (s *sim) calm(good [2]int) {
	for range s.x.below(30) {
		s.flyInside()
		in := s.told(good, s.x.bad)
		in.Reset[s.x.below(2)] = s.x.below(15) == 0
		s.u.Cycle(in)
	}
	for range 60 {
		if s.isArmed(0) && s.isArmed(1) {
			return
		}
		s.flyInside()
		in := s.told(good, s.x.bad)
		in.Ground = [2]string{proc.CommandFrame(api.CArm), proc.CommandFrame(api.CArm)}
		s.u.Cycle(in)
	}
}

// mustFire lets the truth be outside for as long as it takes at most, in one phase: false, if it is in two, or not outside for sure.
func (s *sim) mustFire(good [2]int) bool {
	var phases [2]int
	for cycle := range s.r.N + s.r.D - 1 {
		s.truth = s.fly(60)
		s.truth.X = 9000 + s.x.about(2000)
		for i := range 2 {
			if cycle > 0 && s.phase(i) != phases[i] || s.verdict(i) != api.VViolate {
				return false
			}
			phases[i] = s.phase(i)
		}
		s.u.Cycle(s.told(good, s.x.anything))
	}
	return true
}

func TestMustFire(t *testing.T) {
	x := noise(123456789)
	must, later := 0, 0
	for range 400 {
		r := mission()
		r.N, r.D, r.Green = 1+x.below(6), 1+x.below(6), 30
		s := newSim(t, r, &x)
		good := [2]int{x.below(2), x.below(2)}
		s.truth.Z = int64(x.below(3) * 250)
		s.calm(good)
		if !s.isArmed(0) || !s.isArmed(1) || s.u.Fired() || !s.mustFire(good) {
			continue
		}
		must++
		if s.phase(0) > 0 {
			later++
		}
		if !s.u.Fired() {
			t.Fatalf("N %d, D %d: it hasn't fired", r.N, r.D)
		}
	}
	if must < 200 || later < 50 {
		t.Errorf("it had to fire %d times, %d in a later phase", must, later)
	}
}

// TestMustFireWithinTheWindow: not one cycle later, where the lies are the worst ones.
func TestMustFireWithinTheWindow(t *testing.T) {
	for n := 1; n <= 4; n++ {
		for d := 1; d <= 4; d++ {
			x := noise(17)
			r := mission()
			r.N, r.D, r.Green = n, d, 50
			s := newSim(t, r, &x)
			s.arm()
			s.truth.X = 5000
			for cycle := 1; cycle <= n+d-1; cycle++ {
				in := s.both()
				for i := range 2 {
					// First as many lies as don't fire, and then none.
					in.Ports[i][1] = ""
					if cycle < d {
						in.Ports[i][1] = proc.NavFrame(1, api.Nav{Count: 30000 + cycle})
					}
				}
				s.u.Cycle(in)
				if s.u.Fired() != (cycle == n+d-1) {
					t.Fatalf("N %d, D %d, cycle %d: %d", n, d, cycle, s.u.When())
				}
			}
		}
	}
}

// P25.4

// silence counts for how many cycles on end a processor heard of no source.
type silence [2]int

func (c *silence) count(t *testing.T, told [2]proc.Out) {
	t.Helper()
	for i, o := range told {
		if o.Up && reportOf(t, o).Faults&192 != 192 {
			c[i] = 0
		} else {
			c[i]++
		}
	}
}

// flyInside lets the truth go on, and stay inside for sure in all phases.
func (s *sim) flyInside() {
	for range 20 {
		was := s.truth
		s.truth = s.fly(30)
		isInside := true
		for _, p := range s.r.Phases {
			p.MaxV = min(p.MaxV, 70)
			isInside = isInside && isOkIn(s.truth, p, 2*s.r.Eps)
		}
		if isInside {
			return
		}
		s.truth = was
	}
	// Where no way on was found it stays where it is: its speeds don't change then, either.
}

// ports are what a processor's sources tell, of which one at least is good, if it must be.
func (s *sim) ports(must bool) [2]string {
	var list [2]string
	good := s.x.below(2)
	for source := range 2 {
		if must && source == good || s.x.below(3) > 0 {
			list[source] = s.x.text() + s.good(source)
		} else {
			list[source] = s.x.bad(source)
		}
	}
	return list
}

func TestMustNotFire(t *testing.T) {
	x := noise(987654321)
	armed, phases := 0, 0
	for range 200 {
		s := newSim(t, mission(), &x)
		var quiet silence
		for range 120 {
			s.flyInside()
			var in unit.Input
			for i := range 2 {
				// A reset, or power that goes, takes up to four cycles.
				if quiet[i] == 0 && x.below(25) == 0 {
					in.Reset[i] = true
				} else if quiet[i] == 0 && x.below(25) == 0 {
					in.Tear[i] = 1 + x.below(26)
				}
				in.Reset[i] = in.Reset[i] || !s.u.Proc(i).Up() && s.u.Flash(i).Down() && quiet[i] == 1
				in.Ports[i] = s.ports(quiet[i] >= 2)
				in.Ground[i] = x.command(api.CArm, api.CArm, api.CArm, api.CSafe)
				in.Link[i] = []int{0, 0, 0, 1, 2}[x.below(5)]
			}
			told := s.u.Cycle(in)
			quiet.count(t, told)
			if quiet[0] >= s.r.Green || quiet[1] >= s.r.Green {
				t.Fatalf("it was quiet for too long: %v", quiet)
			}
			if told[0].Fire || told[1].Fire || s.u.Fired() {
				t.Fatalf("%+v, %+v, of %+v", reportOf(t, told[0]), reportOf(t, told[1]), s.truth)
			}
			if told[0].State == api.SArmed {
				armed++
			}
			phases += told[1].Phase
		}
	}
	if armed < 2000 || phases < 500 {
		t.Errorf("armed in %d cycles, phases %d", armed, phases)
	}
}

// TestMustNotFireForTheOtherOne: all that is so of one processor alone; the other one hears anything.
func TestMustNotFireForTheOtherOne(t *testing.T) {
	x := noise(192837465)
	fired := 0
	for range 200 {
		s := newSim(t, mission(), &x)
		which := x.below(2)
		var quiet silence
		for range 60 {
			s.flyInside()
			var in unit.Input
			other := 1 - which
			in.Reset[which] = quiet[which] == 0 && x.below(25) == 0
			in.Ports[which] = s.ports(quiet[which] >= 2)
			in.Ports[other] = [2]string{x.anything(0), x.anything(1)}
			in.Ground[which] = x.command(api.CArm, api.CArm, api.CSafe)
			in.Ground[other] = x.command(api.CArm, api.CArm, api.CArm, api.CTerminate, api.CSafe)
			in.Link = [2]int{x.below(8) / 6, x.below(8) / 6}
			in.Reset[other], in.Tear[other] = x.below(20) == 0, x.below(20)/19*x.below(27)
			told := s.u.Cycle(in)
			quiet.count(t, told)
			if told[which].Fire || s.u.Fired() {
				t.Fatalf("%+v, of %+v", reportOf(t, told[which]), s.truth)
			}
			if told[other].Fire {
				fired++
			}
		}
	}
	if fired < 1000 {
		t.Errorf("the other one was fired in %d cycles", fired)
	}
}
