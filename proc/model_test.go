package proc_test

import (
	"apogee/api"
	"apogee/latch"
	"apogee/peer"
	"apogee/source"
	"apogee/verdict"
)

// heard is what comes to a processor in a cycle, as what its bytes tell.
type heard struct {
	navs    [2][]api.Nav
	command int
	word    *peer.Word
}

// model is what the chapter says, step by step, of what is told in numbers.
type model struct {
	r            api.Rules
	sources      [2]*source.Source
	cycle, state int
	phase, in    int
	flight       bool
	counts       [3]int
	toArm        bool
	toBeSafe     bool
	// What the last cycle told beside.
	wished   bool
	verdicts [2]int
	faults   int
}

func newModel(r api.Rules) *model {
	m := &model{r: r}
	m.boot(latch.Record{})
	return m
}

// boot goes on from what is kept; the zero record stands for none.
func (m *model) boot(r latch.Record) {
	*m = model{r: m.r, cycle: r.Cycle, state: r.State, phase: r.Phase, in: r.InPhase, flight: r.Flight == 1}
	m.counts = [3]int{r.Violations, r.Disputes, r.Invalid}
	m.sources = [2]*source.Source{source.New(m.r), source.New(m.r)}
}

func (m *model) run(h heard) {
	m.cycle = min(1000000, m.cycle+1)
	now := m.r.Phases[m.phase]
	m.verdicts, m.faults = [2]int{api.VInvalid, api.VInvalid}, 0
	var valid []api.Nav
	for i := range 2 {
		n, fault := m.sources[i].Cycle(h.navs[i])
		if fault != 0 {
			m.faults += 64 << i
			continue
		}
		m.verdicts[i] = verdict.Of(n, now, m.r.Eps)
		valid = append(valid, n)
	}
	height := int64(-1 << 40)
	if len(valid) > 0 {
		height = valid[0].Z
	}
	if len(valid) == 2 {
		height = min(height, valid[1].Z)
		if areApart(valid[0], valid[1], 2*m.r.Eps) {
			m.faults += 32
		}
	}
	m.flight = m.flight || len(valid) > 0 && height >= m.r.Lift
	fires := m.count()
	before := m.phase
	m.change(h, fires)
	m.wished = m.flight && len(valid) > 0 && m.phase < len(m.r.Phases)-1 && m.in >= now.Min && height >= now.Up
	if !m.flight {
		return
	}
	if m.wished && h.word != nil && (h.word.Phase > before || h.word.Phase == before && h.word.Wish/4%2 == 1) {
		m.phase, m.in = m.phase+1, 0
	} else {
		m.in = min(1000000, m.in+1)
	}
}

func areApart(a, b api.Nav, eps int64) bool {
	for _, d := range []int64{a.X - b.X, a.Y - b.Y, a.Z - b.Z, a.VX - b.VX, a.VY - b.VY, a.VZ - b.VZ} {
		if d > eps || d < -eps {
			return true
		}
	}
	return false
}

// count counts the verdicts: whether that fires.
func (m *model) count() bool {
	if m.state != api.SArmed {
		m.counts = [3]int{}
		return false
	}
	most := [3]int{m.r.N, m.r.D, m.r.Green}
	up := func(i int) { m.counts[i] = min(most[i], m.counts[i]+1) }
	a, b := m.verdicts[0], m.verdicts[1]
	switch {
	case a == api.VInvalid && b == api.VInvalid:
		up(2)
	case a != api.VViolate && b != api.VViolate:
		m.counts = [3]int{}
	default:
		m.counts[2] = 0
		if a == b || a == api.VInvalid || b == api.VInvalid {
			up(0)
		} else {
			up(1)
		}
	}
	return m.counts[0] == most[0] || m.counts[1] == most[1] || m.counts[2] == most[2]
}

func (m *model) change(h heard, fires bool) {
	if h.command == api.CArm || h.command == api.CSafe {
		m.toArm, m.toBeSafe = h.command == api.CArm, h.command == api.CSafe
	}
	was := m.state
	w := h.word
	switch {
	case was == api.SSafe:
		m.toBeSafe = false
		if m.toArm && w != nil && (w.Wish%2 == 1 || w.State > 0) {
			m.state = api.SArmed
		}
	case was == api.SArmed && (fires || h.command == api.CTerminate):
		m.state = api.SFired
	case was == api.SArmed:
		m.toArm = false
		if m.flight && m.phase < m.r.Safing {
			m.toBeSafe = false
		}
		if m.toBeSafe && w != nil && (w.Wish/2%2 == 1 || w.State == 0) {
			m.state = api.SSafe
		}
	}
	if m.state != was || m.state == api.SFired {
		m.toArm, m.toBeSafe = false, false
	}
}

// record is what should be kept, but for its Seq.
func (m *model) record() latch.Record {
	r := latch.Record{Cycle: m.cycle, Phase: m.phase, State: m.state, InPhase: m.in}
	r.Violations, r.Disputes, r.Invalid = m.counts[0], m.counts[1], m.counts[2]
	if m.flight {
		r.Flight = 1
	}
	return r
}

func (m *model) word() peer.Word {
	w := peer.Word{Cycle: m.cycle, Phase: m.phase, State: m.state}
	for bit, has := range []bool{m.toArm, m.toBeSafe, m.wished} {
		if has {
			w.Wish += 1 << bit
		}
	}
	return w
}

func (m *model) report() peer.Report {
	r := peer.Report{Cycle: m.cycle, Phase: m.phase, State: m.state, Verdicts: m.verdicts, Faults: m.faults}
	r.Violations, r.Disputes, r.Invalid = m.counts[0], m.counts[1], m.counts[2]
	return r
}
