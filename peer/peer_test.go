package peer_test

import (
	"encoding/binary"
	"encoding/hex"
	"hash/crc32"
	"math"
	"strings"
	"testing"

	"apogee/api"
	"apogee/frame"
	"apogee/peer"
)

// raw is the text that is written in digits of sixteen, with spaces anywhere.
func raw(digits string) string {
	list, err := hex.DecodeString(strings.ReplaceAll(digits, " ", ""))
	if err != nil {
		panic(err)
	}
	return string(list)
}

// laid lays a body, whether it may be or not, with its sum by the library's means.
func laid(body string) string {
	return string(binary.BigEndian.AppendUint32([]byte(body), crc32.ChecksumIEEE([]byte(body))))
}

// turned is a text with one bit turned.
func turned(s string, bit int) string {
	list := []byte(s)
	list[bit/8] ^= 1 << (bit % 8)
	return string(list)
}

// put is a text with another byte at a place.
func put(s string, at int, b byte) string {
	return s[:at] + string([]byte{b}) + s[at+1:]
}

type noise uint64

func (x *noise) next() int {
	*x ^= *x << 13
	*x ^= *x >> 7
	*x ^= *x << 17
	return int(*x >> 33)
}

func (x *noise) below(n int) int { return x.next() % n }

func (x *noise) text(length int) string {
	list := make([]byte, length)
	for i := range list {
		list[i] = byte(x.next())
	}
	return string(list)
}

func (x *noise) word() peer.Word {
	return peer.Word{Cycle: x.below(1000001), Phase: x.below(4), State: x.below(3), Wish: x.below(16)}
}

func (x *noise) report() peer.Report {
	return peer.Report{
		Cycle: x.below(1000001), Phase: x.below(4), State: x.below(3),
		Violations: x.below(256), Disputes: x.below(256), Invalid: x.below(256),
		Verdicts: [2]int{x.below(5), x.below(5)}, Faults: x.below(256),
	}
}

// refusals tell what each Read answers, and whether all beside its error is zero.
var refusals = map[string]func(s string) (api.Errno, bool){
	"ReadWord":    func(s string) (api.Errno, bool) { w, e := peer.ReadWord(s); return e, w == peer.Word{} },
	"ReadReport":  func(s string) (api.Errno, bool) { r, e := peer.ReadReport(s); return e, r == peer.Report{} },
	"ReadCommand": func(s string) (api.Errno, bool) { c, e := peer.ReadCommand(s); return e, c == 0 },
}

func expectRefused(t *testing.T, call, s string, want api.Errno) {
	t.Helper()
	if e, zero := refusals[call](s); e != want || !zero {
		t.Fatalf("%s of %x: %d, zero beside it: %v; want %d", call, s, e, zero, want)
	}
}

func expectWord(t *testing.T, w peer.Word, want string) {
	t.Helper()
	if got := peer.PrintWord(w); got != want {
		t.Fatalf("PrintWord of %v: %x, want %x", w, got, want)
	}
	if got, e := peer.ReadWord(want); got != w || e != api.OK {
		t.Fatalf("ReadWord of %x: %v, %d; want %v", want, got, e, w)
	}
}

func expectReport(t *testing.T, r peer.Report, want string) {
	t.Helper()
	if got := peer.PrintReport(r); got != want {
		t.Fatalf("PrintReport of %v: %x, want %x", r, got, want)
	}
	if got, e := peer.ReadReport(want); got != r || e != api.OK {
		t.Fatalf("ReadReport of %x: %v, %d; want %v", want, got, e, r)
	}
}

// laidWord is what PrintWord should tell.
func laidWord(w peer.Word) string {
	return laid(string(append(binary.BigEndian.AppendUint32(nil, uint32(w.Cycle)), byte(w.State<<4|w.Phase), byte(w.Wish))))
}

// laidReport is what PrintReport should tell.
func laidReport(r peer.Report) string {
	return laid(string(append(binary.BigEndian.AppendUint32(nil, uint32(r.Cycle)), byte(r.State<<4|r.Phase),
		byte(r.Violations), byte(r.Disputes), byte(r.Invalid), byte(r.Verdicts[1]<<4|r.Verdicts[0]), byte(r.Faults))))
}

// The known payloads have sums that were reckoned elsewhere.

var knownWords = []struct {
	w     peer.Word
	bytes string
}{
	{peer.Word{}, "00 00 00 00 00 00 b1 c2 a1 a3"},
	{peer.Word{Cycle: 1, Phase: 2, State: 1, Wish: 5}, "00 00 00 01 12 05 b8 9e 4f c8"},
	{peer.Word{Cycle: 1000000, Phase: 3, State: 2, Wish: 15}, "00 0f 42 40 23 0f 5c 03 41 f4"},
	{peer.Word{Cycle: 66051, Phase: 0, State: 1, Wish: 1}, "00 01 02 03 10 01 19 28 dc 06"},
	{peer.Word{Cycle: 255, Phase: 1, State: 0, Wish: 8}, "00 00 00 ff 01 08 18 9a 2c 3d"},
}

var knownReports = []struct {
	r     peer.Report
	bytes string
}{
	{peer.Report{}, "00 00 00 00 00 00 00 00 00 00 e3 8a 68 76"},
	{peer.Report{Cycle: 1, Phase: 2, State: 1, Violations: 3, Disputes: 4, Invalid: 5, Verdicts: [2]int{1, 3}, Faults: 6}, "00 00 00 01 12 03 04 05 31 06 ea d4 4d b9"},
	{peer.Report{Cycle: 1000000, Phase: 3, State: 2, Violations: 255, Disputes: 255, Invalid: 255, Verdicts: [2]int{4, 4}, Faults: 255}, "00 0f 42 40 23 ff ff ff 44 ff 81 56 f0 ca"},
	{peer.Report{Cycle: 66051, Phase: 1, State: 2, Violations: 1, Verdicts: [2]int{3, 0}, Faults: 64}, "00 01 02 03 21 01 00 00 03 40 2b 5d 8c a5"},
	{peer.Report{Cycle: 7, State: 1, Disputes: 50, Verdicts: [2]int{0, 4}, Faults: 128}, "00 00 00 07 10 00 32 00 40 80 62 18 a8 6c"},
}

var knownCommands = []struct {
	command int
	bytes   string
}{
	{api.CArm, "01 54 ab fe e5 bb 84 2c"},
	{api.CSafe, "02 57 a8 fd 47 6c 97 e2"},
	{api.CTerminate, "03 56 a9 fc 90 0e 9b 67"},
}

// P7.1

func TestKnownPayloads(t *testing.T) {
	for _, c := range knownWords {
		expectWord(t, c.w, raw(c.bytes))
	}
	for _, c := range knownReports {
		expectReport(t, c.r, raw(c.bytes))
	}
	for _, c := range knownCommands {
		want := raw(c.bytes)
		if got := peer.PrintCommand(c.command); got != want {
			t.Errorf("PrintCommand(%d): %x, want %x", c.command, got, want)
		}
		if got, e := peer.ReadCommand(want); got != c.command || e != api.OK {
			t.Errorf("ReadCommand of %x: %d, %d; want %d", want, got, e, c.command)
		}
	}
}

// wrongs are numbers that are no byte's, so that no field may have them.
var wrongs = []int{-1, -2, -256, -1 << 31, 1 << 32, 1<<32 + 1, -1<<32 + 1, 1<<62 + 1, math.MinInt, math.MaxInt}

func TestWordsThatMayNotBe(t *testing.T) {
	expect := func(w peer.Word) {
		t.Helper()
		if got := peer.PrintWord(w); got != "" {
			t.Errorf("PrintWord of %v: %x", w, got)
		}
	}
	for _, w := range []peer.Word{{}, {Cycle: 1000000, Phase: 3, State: 2, Wish: 15}} {
		for _, n := range append([]int{1000001, 1000256, 1 << 20, 1 << 31, 1<<32 - 1}, wrongs...) {
			expect(peer.Word{Cycle: n, Phase: w.Phase, State: w.State, Wish: w.Wish})
		}
		for _, n := range append([]int{4, 5, 15, 16, 20, 256}, wrongs...) {
			expect(peer.Word{Cycle: w.Cycle, Phase: n, State: w.State, Wish: w.Wish})
		}
		for _, n := range append([]int{3, 4, 15, 16, 17, 256}, wrongs...) {
			expect(peer.Word{Cycle: w.Cycle, Phase: w.Phase, State: n, Wish: w.Wish})
		}
		for _, n := range append([]int{16, 17, 255, 256, 257}, wrongs...) {
			expect(peer.Word{Cycle: w.Cycle, Phase: w.Phase, State: w.State, Wish: n})
		}
	}
	// Together these two would be the byte of others that may be.
	expect(peer.Word{Phase: -15, State: 1})
	expect(peer.Word{Phase: 16, State: -1})
}

func TestReportsThatMayNotBe(t *testing.T) {
	expect := func(r peer.Report) {
		t.Helper()
		if got := peer.PrintReport(r); got != "" {
			t.Errorf("PrintReport of %v: %x", r, got)
		}
	}
	most := peer.Report{Cycle: 1000000, Phase: 3, State: 2, Violations: 255, Disputes: 255, Invalid: 255, Verdicts: [2]int{4, 4}, Faults: 255}
	for _, r := range []peer.Report{{}, most} {
		for _, c := range []struct {
			field *int
			first []int
		}{
			{&r.Cycle, []int{1000001, 1 << 20, 1 << 31, 1<<32 - 1}},
			{&r.Phase, []int{4, 5, 15, 16}},
			{&r.State, []int{3, 4, 15, 16}},
			{&r.Violations, []int{256, 257, 511}},
			{&r.Disputes, []int{256, 257, 511}},
			{&r.Invalid, []int{256, 257, 511}},
			{&r.Verdicts[0], []int{5, 6, 15, 16, 17, 256}},
			{&r.Verdicts[1], []int{5, 6, 15, 16, 17, 256}},
			{&r.Faults, []int{256, 257, 511}},
		} {
			was := *c.field
			for _, n := range append(c.first, wrongs...) {
				*c.field = n
				expect(r)
			}
			*c.field = was
		}
	}
	expect(peer.Report{Verdicts: [2]int{-15, 1}})
	expect(peer.Report{Verdicts: [2]int{16, -1}})
}

func TestCommandsThatMayNotBe(t *testing.T) {
	for _, command := range append([]int{api.CNone, 4, 5, 255, 256, 257, 258, 259}, wrongs...) {
		if got := peer.PrintCommand(command); got != "" {
			t.Errorf("PrintCommand(%d): %x", command, got)
		}
	}
}

func TestReadOfAnotherLength(t *testing.T) {
	x := noise(88172645463325252)
	for _, c := range []struct {
		call  string
		texts []string
	}{
		{"ReadWord", []string{raw(knownWords[1].bytes), laid(strings.Repeat("\xff", 6)), x.text(10)}},
		{"ReadReport", []string{raw(knownReports[1].bytes), laid(strings.Repeat("\xff", 10)), x.text(14)}},
		{"ReadCommand", []string{raw(knownCommands[1].bytes), laid(strings.Repeat("\xff", 4)), x.text(8)}},
	} {
		for _, s := range c.texts {
			for n := range len(s) {
				expectRefused(t, c.call, s[:n], api.ErrShort)
			}
			for _, more := range []int{1, 2, 4, 6, 246, 256, 1 << 16} {
				expectRefused(t, c.call, s+x.text(more), api.ErrForm)
			}
		}
		// A sum that holds makes no other length right.
		size := len(c.texts[0]) - 4
		for n := range 30 {
			if n < size {
				expectRefused(t, c.call, laid(x.text(n)), api.ErrShort)
			}
			if n > size {
				expectRefused(t, c.call, laid(x.text(n)), api.ErrForm)
			}
		}
	}
}

func TestReadOfAWrongSum(t *testing.T) {
	for call, s := range map[string]string{
		"ReadWord": raw(knownWords[1].bytes), "ReadReport": raw(knownReports[1].bytes), "ReadCommand": raw(knownCommands[1].bytes),
	} {
		size := len(s) - 4
		body := s[:size]
		sum := binary.BigEndian.Uint32([]byte(s[size:]))
		for _, wrong := range []uint32{0, 1, sum - 1, sum + 1, ^sum, sum>>8 | sum<<24, math.MaxUint32} {
			expectRefused(t, call, string(binary.BigEndian.AppendUint32([]byte(body), wrong)), api.ErrSum)
		}
		expectRefused(t, call, string(binary.LittleEndian.AppendUint32([]byte(body), sum)), api.ErrSum)
		// The sum is asked ahead of what it is the sum of.
		for _, wrong := range []string{strings.Repeat("\xff", size), strings.Repeat("\xee", size)} {
			expectRefused(t, call, wrong+s[size:], api.ErrSum)
		}
		for at := range size {
			for b := range 256 {
				if byte(b) != s[at] {
					expectRefused(t, call, put(s, at, byte(b)), api.ErrSum)
				}
			}
		}
	}
}

// TestReadWordOfAnyByte puts each byte at each place, with a sum that holds.
func TestReadWordOfAnyByte(t *testing.T) {
	for _, c := range knownWords {
		body := raw(c.bytes)[:6]
		for at := range body {
			for b := range 256 {
				s := put(body, at, byte(b))
				cycle := int(binary.BigEndian.Uint32([]byte(s)))
				w := peer.Word{Cycle: cycle, Phase: int(s[4] & 15), State: int(s[4] >> 4), Wish: int(s[5])}
				if w.Cycle > 1000000 || w.Phase > 3 || w.State > 2 || w.Wish > 15 {
					expectRefused(t, "ReadWord", laid(s), api.ErrForm)
				} else {
					expectWord(t, w, laid(s))
				}
			}
		}
	}
}

func TestReadReportOfAnyByte(t *testing.T) {
	for _, c := range knownReports {
		body := raw(c.bytes)[:10]
		for at := range body {
			for b := range 256 {
				s := put(body, at, byte(b))
				cycle := int(binary.BigEndian.Uint32([]byte(s)))
				r := peer.Report{
					Cycle: cycle, Phase: int(s[4] & 15), State: int(s[4] >> 4),
					Violations: int(s[5]), Disputes: int(s[6]), Invalid: int(s[7]),
					Verdicts: [2]int{int(s[8] & 15), int(s[8] >> 4)}, Faults: int(s[9]),
				}
				if r.Cycle > 1000000 || r.Phase > 3 || r.State > 2 || r.Verdicts[0] > 4 || r.Verdicts[1] > 4 {
					expectRefused(t, "ReadReport", laid(s), api.ErrForm)
				} else {
					expectReport(t, r, laid(s))
				}
			}
		}
	}
}

func TestReadOfCyclesAtTheirEdge(t *testing.T) {
	for _, cycle := range []uint32{1000001, 1000255, 1 << 20, 1 << 24, 1<<31 - 1, 1 << 31, 1<<32 - 1} {
		begin := string(binary.BigEndian.AppendUint32(nil, cycle))
		expectRefused(t, "ReadWord", laid(begin+"\x00\x00"), api.ErrForm)
		expectRefused(t, "ReadReport", laid(begin+"\x00\x00\x00\x00\x00\x00"), api.ErrForm)
	}
	for _, cycle := range []int{0, 1, 255, 256, 65535, 65536, 999999, 1000000} {
		expectWord(t, peer.Word{Cycle: cycle}, laidWord(peer.Word{Cycle: cycle}))
		expectReport(t, peer.Report{Cycle: cycle}, laidReport(peer.Report{Cycle: cycle}))
	}
}

// TestReadCommandOfAnyBytes: only three bodies are a command's, whatever the sum.
func TestReadCommandOfAnyBytes(t *testing.T) {
	right := map[string]int{}
	for command := 1; command <= 3; command++ {
		right[string([]byte{byte(command), byte(command ^ 0x55), byte(command ^ 0xaa), byte(command ^ 0xff)})] = command
	}
	expect := func(body string) {
		if want := right[body]; want == 0 {
			expectRefused(t, "ReadCommand", laid(body), api.ErrForm)
		} else if got, e := peer.ReadCommand(laid(body)); got != want || e != api.OK {
			t.Fatalf("ReadCommand of %x: %d, %d; want %d", laid(body), got, e, want)
		}
	}
	for n := range 256 {
		b := byte(n)
		expect(string([]byte{b, b ^ 0x55, b ^ 0xaa, b ^ 0xff}))
		expect(string([]byte{b, b, b, b}))
		for body := range right {
			for at := range body {
				expect(put(body, at, b))
			}
		}
	}
	for a := range right {
		for b := range right {
			for at := range 5 {
				expect(a[:at] + b[at:])
			}
		}
	}
}

// P7.2

func TestWhatIsPrintedIsReadAsItWas(t *testing.T) {
	for _, cycle := range []int{0, 1, 1000000} {
		for phase := range 4 {
			for state := range 3 {
				for wish := range 16 {
					w := peer.Word{Cycle: cycle, Phase: phase, State: state, Wish: wish}
					expectWord(t, w, laidWord(w))
				}
				for first := range 5 {
					for second := range 5 {
						r := peer.Report{Cycle: cycle, Phase: phase, State: state, Violations: 1, Invalid: 2, Verdicts: [2]int{first, second}, Faults: 3}
						expectReport(t, r, laidReport(r))
					}
				}
			}
		}
	}
	x := noise(2463534242)
	for range 10000 {
		w, r := x.word(), x.report()
		expectWord(t, w, laidWord(w))
		expectReport(t, r, laidReport(r))
	}
}

func TestOneTurnedBitIsSeen(t *testing.T) {
	expect := func(call, s string) {
		for bit := range 8 * len(s) {
			expectRefused(t, call, turned(s, bit), api.ErrSum)
		}
	}
	for _, c := range knownCommands {
		expect("ReadCommand", raw(c.bytes))
	}
	for _, c := range knownWords {
		expect("ReadWord", raw(c.bytes))
	}
	for _, c := range knownReports {
		expect("ReadReport", raw(c.bytes))
	}
	x := noise(362436069)
	for range 300 {
		expect("ReadWord", peer.PrintWord(x.word()))
		expect("ReadReport", peer.PrintReport(x.report()))
	}
}

func TestNoneIsReadAsAnother(t *testing.T) {
	word, report, command := peer.PrintWord(peer.Word{Cycle: 1}), peer.PrintReport(peer.Report{Cycle: 1}), peer.PrintCommand(api.CArm)
	expectRefused(t, "ReadWord", command, api.ErrShort)
	expectRefused(t, "ReadWord", report, api.ErrForm)
	expectRefused(t, "ReadReport", command, api.ErrShort)
	expectRefused(t, "ReadReport", word, api.ErrShort)
	expectRefused(t, "ReadCommand", word, api.ErrForm)
	expectRefused(t, "ReadCommand", report, api.ErrForm)
}

func TestAllGoThroughAFrame(t *testing.T) {
	word, report, command := peer.Word{Cycle: 9, Wish: 4}, peer.Report{Cycle: 9, Faults: 32}, api.CSafe
	through := func(payload string) string {
		f, _, e := frame.Read(frame.Print(frame.Frame{Kind: 48, Payload: payload}))
		if e != api.OK {
			t.Errorf("%x: %d", payload, e)
		}
		return f.Payload
	}
	if got, e := peer.ReadWord(through(peer.PrintWord(word))); got != word || e != api.OK {
		t.Errorf("a word: %v, %d", got, e)
	}
	if got, e := peer.ReadReport(through(peer.PrintReport(report))); got != report || e != api.OK {
		t.Errorf("a report: %v, %d", got, e)
	}
	if got, e := peer.ReadCommand(through(peer.PrintCommand(command))); got != command || e != api.OK {
		t.Errorf("a command: %v, %d", got, e)
	}
}
