package proc

import (
	"apogee/api"
	"apogee/frame"
	"apogee/nav"
	"apogee/peer"
)

// The kinds of frames, beside those of navs.
const (
	commandKind = 32
	wordKind    = 48
	reportKind  = 64
)

// toGoOn is the bit of a word's Wish for the next phase.
const toGoOn = 4

// inFlight is what is kept in flight.
const inFlight = 1

// What a report tells as Faults beside those of the self-test: that the sources are apart, and that the first one has a fault; twice that of the second one.
const (
	apart     = 32
	badSource = 64
)

// heard is what came to a processor in a cycle, and is right.
type heard struct {
	navs    [2]api.Nav
	valid   [2]bool
	command int
	word    peer.Word
	hasWord bool
}

// CommandFrame: a command as a frame's bytes.
func CommandFrame(command int) string { return framed(commandKind, peer.PrintCommand(command)) }

// NavFrame: a nav as a frame's bytes.
func NavFrame(source int, n api.Nav) string { return framed(nav.Kind(source), nav.Print(n)) }

// framed is a payload as a frame's bytes; none, if the payload is empty, as there are no bytes of what is in it then.
func framed(kind int, payload string) string {
	if payload == "" {
		return ""
	}
	return frame.Print(frame.Frame{Kind: kind, Payload: payload})
}

// hear reads all that comes.
func (p *Proc) hear(in In) heard {
	var h heard
	for i, s := range p.sources {
		n, fault := s.Cycle(readNavs(p.ports[i].Feed(in.Ports[i]), i))
		h.navs[i], h.valid[i] = n, fault == 0
	}
	h.command, _ = readLast(p.ground.Feed(in.Ground), commandKind, peer.ReadCommand)
	h.word, h.hasWord = readLast(p.peer.Feed(in.Peer), wordKind, peer.ReadWord)
	return h
}

// readNavs are the navs of a source's own frames.
func readNavs(list []frame.Frame, source int) []api.Nav {
	var navs []api.Nav
	for _, f := range list {
		if f.Kind != nav.Kind(source) {
			continue
		}
		if n, e := nav.Read(f.Payload); e == api.OK {
			navs = append(navs, n)
		}
	}
	return navs
}

// readLast is what the last one of the frames of a kind tells that can be read; zero and false, if none can.
func readLast[T any](list []frame.Frame, kind int, read func(string) (T, api.Errno)) (last T, ok bool) {
	for _, f := range list {
		if f.Kind != kind {
			continue
		}
		if x, e := read(f.Payload); e == api.OK {
			last, ok = x, true
		}
	}
	return last, ok
}

// tellFaults is what one tells that is locked.
func (p *Proc) tellFaults() Out {
	word := peer.Word{Cycle: p.cycle}
	report := peer.Report{Cycle: p.cycle, Faults: p.faults}
	return Out{Up: true, Link: wordFrame(word), Report: reportFrame(report)}
}

// tell is what a healthy one tells.
func (p *Proc) tell(x judged, wished bool) Out {
	state, phase := p.seq.State(), p.phase.Phase()
	word := peer.Word{Cycle: p.cycle, Phase: phase, State: state, Wish: p.seq.Wish()}
	if wished {
		word.Wish |= toGoOn
	}
	report := peer.Report{Cycle: p.cycle, Phase: phase, State: state, Verdicts: x.verdicts, Faults: x.faults}
	report.Violations, report.Disputes, report.Invalid = p.tally.Counts()
	return Out{
		Up: true, State: state, Phase: phase, Fire: state == api.SFired,
		Link: wordFrame(word), Report: reportFrame(report),
	}
}

func wordFrame(w peer.Word) string { return framed(wordKind, peer.PrintWord(w)) }

func reportFrame(r peer.Report) string { return framed(reportKind, peer.PrintReport(r)) }
