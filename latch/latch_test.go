package latch_test

import (
	"encoding/binary"
	"encoding/hex"
	"hash/crc32"
	"math"
	"strings"
	"testing"

	"apogee/api"
	"apogee/flash"
	"apogee/latch"
)

const maxSeq = 1 << 31

// none is what a latch has where none is kept.
var none latch.Record

// raw is the text that is written in digits of sixteen, with spaces anywhere.
func raw(digits string) string {
	list, err := hex.DecodeString(strings.ReplaceAll(digits, " ", ""))
	if err != nil {
		panic(err)
	}
	return string(list)
}

// four is a number as four bytes.
func four(n uint32) string { return string(binary.BigEndian.AppendUint32(nil, n)) }

// laid lays sixteen bytes, whether they may be or not, as a slot's, by the library's means.
func laid(body string) string { return body + four(crc32.ChecksumIEEE([]byte(body))) + body[:4] }

// slot is what Print should tell.
func slot(r latch.Record) string {
	list := []byte{byte(r.State<<4 | r.Flight<<2 | r.Phase), byte(r.Violations), byte(r.Disputes), byte(r.Invalid)}
	return laid(four(uint32(r.Seq)) + four(uint32(r.Cycle)) + string(list) + four(uint32(r.InPhase)))
}

// put is a text with another byte at a place.
func put(s string, at int, b byte) string { return s[:at] + string([]byte{b}) + s[at+1:] }

func blank(n int) string { return strings.Repeat("\xff", n) }

type noise uint64

func (x *noise) below(n int) int {
	*x ^= *x << 13
	*x ^= *x >> 7
	*x ^= *x << 17
	return int(*x>>33) % n
}

func (x *noise) text(length int) string {
	list := make([]byte, length)
	for i := range list {
		list[i] = byte(x.below(256))
	}
	return string(list)
}

// record is any one that may be.
func (x *noise) record() latch.Record {
	return latch.Record{
		Seq: 1 + x.below(maxSeq-1), Cycle: x.below(1000001), Phase: x.below(4), State: x.below(3), Flight: x.below(2),
		Violations: x.below(256), Disputes: x.below(256), Invalid: x.below(256), InPhase: x.below(1000001),
	}
}

// holding is a flash with these bytes.
func holding(t *testing.T, s string) *flash.Flash {
	t.Helper()
	f, e := flash.New(len(s))
	if e != api.OK {
		t.Fatal(e)
	}
	if e := f.Write(0, s); e != api.OK {
		t.Fatal(e)
	}
	return f
}

func opened(t *testing.T, f *flash.Flash, base int) *latch.Latch {
	t.Helper()
	l, e := latch.Open(f, base)
	if l == nil || e != api.OK {
		t.Fatalf("Open at %d: %v, %d", base, l, e)
	}
	return l
}

func expectBytes(t *testing.T, f *flash.Flash, want string) {
	t.Helper()
	if got, e := f.Read(0, f.Size()); got != want || e != api.OK {
		t.Fatalf("the flash has %x, %d; want %x", got, e, want)
	}
}

// expectLast holds what a latch has against a record, none standing for none.
func expectLast(t *testing.T, l *latch.Latch, want latch.Record) {
	t.Helper()
	if got, ok := l.Last(); got != want || ok != (want != none) {
		t.Fatalf("Last: %v, %v; want %v", got, ok, want)
	}
}

func expectOpened(t *testing.T, f *flash.Flash, base int, want latch.Record) {
	t.Helper()
	expectLast(t, opened(t, f, base), want)
}

func expectSave(t *testing.T, l *latch.Latch, r latch.Record, want api.Errno) {
	t.Helper()
	if e := l.Save(r); e != want {
		t.Fatalf("Save of %v: %d, want %d", r, e, want)
	}
}

func expectRight(t *testing.T, r latch.Record, want bool) {
	t.Helper()
	if latch.Right(r) != want {
		t.Fatalf("Right of %v: %v", r, !want)
	}
	if !want && latch.Print(r) != "" {
		t.Fatalf("Print of %v: %x", r, latch.Print(r))
	}
}

func expectPrinted(t *testing.T, r latch.Record, want string) {
	t.Helper()
	if got := latch.Print(r); got != want {
		t.Fatalf("Print of %v: %x, want %x", r, got, want)
	}
	if got, ok := latch.Read(want); got != r || !ok {
		t.Fatalf("Read of %x: %v, %v; want %v", want, got, ok, r)
	}
}

func expectNotRead(t *testing.T, s string) {
	t.Helper()
	if r, ok := latch.Read(s); r != none || ok {
		t.Fatalf("Read of %x: %v, %v; want none", s, r, ok)
	}
}

// known have sums that were reckoned elsewhere.
var known = []struct {
	r     latch.Record
	bytes string
}{
	{latch.Record{Seq: 1}, "00000001 00000000 00000000 00000000 312d92d0 00000001"},
	{latch.Record{Seq: 2, Cycle: 3, Phase: 1, State: 1, Flight: 1, Violations: 4, Disputes: 5, Invalid: 6, InPhase: 7}, "00000002 00000003 15040506 00000007 34972837 00000002"},
	{latch.Record{Seq: maxSeq, Cycle: 1000000, Phase: 3, State: 2, Flight: 1, Violations: 255, Disputes: 255, Invalid: 255, InPhase: 1000000}, "80000000 000f4240 27ffffff 000f4240 9789e0e8 80000000"},
	{latch.Record{Seq: 16909060, Cycle: 66051, Phase: 2, State: 1, Disputes: 50, Invalid: 1, InPhase: 515}, "01020304 00010203 12003201 00000203 4b089d58 01020304"},
	{latch.Record{Seq: 256, Cycle: 255, Flight: 1, Violations: 1, InPhase: 256}, "00000100 000000ff 04010000 00000100 03dd9267 00000100"},
	{latch.Record{Seq: 7, Cycle: 9, Phase: 3, State: 2, Invalid: 128, InPhase: 65536}, "00000007 00000009 23000080 00010000 fab64446 00000007"},
}

// field is a number of a record, the ones at the edges of what it may be, and the ones beyond them.
type field struct {
	number       *int
	right, wrong []int
}

// fields are a record's numbers, but for its Seq.
func fields(r *latch.Record) []field {
	wrong := []int{-1, -2, -256, -1 << 31, 1 << 32, 1<<32 + 1, -1<<32 + 1, math.MinInt, math.MaxInt}
	cycles := field{right: []int{0, 1, 255, 256, 65536, 999999, 1000000}, wrong: append([]int{1000001, 1 << 20, 1 << 31, 1<<32 - 1}, wrong...)}
	byteful := field{right: []int{0, 1, 127, 128, 254, 255}, wrong: append([]int{256, 257, 511}, wrong...)}
	at := func(number *int, like field) field { return field{number, like.right, like.wrong} }
	return []field{
		at(&r.Cycle, cycles),
		at(&r.InPhase, cycles),
		at(&r.Violations, byteful),
		at(&r.Disputes, byteful),
		at(&r.Invalid, byteful),
		{&r.Phase, []int{0, 1, 2, 3}, append([]int{4, 5, 8, 16, 256}, wrong...)},
		{&r.State, []int{0, 1, 2}, append([]int{3, 4, 15, 16, 256}, wrong...)},
		{&r.Flight, []int{0, 1}, append([]int{2, 3, 4, 8, 256}, wrong...)},
	}
}

// P9.1

func TestKnownRecords(t *testing.T) {
	for _, c := range known {
		expectRight(t, c.r, true)
		expectPrinted(t, c.r, raw(c.bytes))
	}
}

func TestEachNumberAtItsEdges(t *testing.T) {
	for _, r := range []latch.Record{known[0].r, known[1].r, known[2].r} {
		for _, f := range fields(&r) {
			was := *f.number
			for _, n := range f.right {
				*f.number = n
				expectRight(t, r, true)
				expectPrinted(t, r, slot(r))
			}
			for _, n := range f.wrong {
				*f.number = n
				expectRight(t, r, false)
			}
			*f.number = was
		}
	}
}

func TestSeqAtItsEdges(t *testing.T) {
	for _, r := range []latch.Record{known[0].r, known[2].r} {
		for _, seq := range []int{1, 2, 255, 256, 65536, 1 << 24, maxSeq - 1, maxSeq} {
			r.Seq = seq
			expectRight(t, r, true)
			expectPrinted(t, r, slot(r))
		}
		for _, seq := range []int{0, -1, -maxSeq, maxSeq + 1, 1<<32 - 1, 1 << 32, 1<<32 + 1, -1<<32 + 1, math.MinInt, math.MaxInt} {
			r.Seq = seq
			expectRight(t, r, false)
		}
		for _, seq := range []uint32{0, maxSeq + 1, 1<<32 - 1} {
			expectNotRead(t, laid(four(seq)+slot(r)[4:16]))
		}
	}
	expectRight(t, none, false)
	// Together these would be the byte of others that may be.
	for _, r := range []latch.Record{{Seq: 1, Phase: 4}, {Seq: 1, Phase: -4, Flight: 1}, {Seq: 1, Flight: 4}, {Seq: 1, Flight: -4, State: 1}, {Seq: 1, Phase: 16}} {
		expectRight(t, r, false)
	}
}

func TestReadOfAnotherLength(t *testing.T) {
	x := noise(88172645463325252)
	for _, c := range known {
		s := raw(c.bytes)
		for n := range len(s) {
			expectNotRead(t, s[:n])
			expectNotRead(t, s[n+1:])
		}
		for _, more := range []int{1, 2, 4, 24, 232, 256} {
			expectNotRead(t, s+x.text(more))
			expectNotRead(t, x.text(more)+s)
		}
		expectNotRead(t, s+s)
	}
	for n := range 60 {
		expectNotRead(t, blank(n))
		expectNotRead(t, strings.Repeat("\x00", n))
		expectNotRead(t, x.text(n))
	}
}

// TestReadOfAnyByte puts each byte at each place, with a sum and a second Seq that hold, and with those that were right ahead of it.
func TestReadOfAnyByte(t *testing.T) {
	for _, c := range known {
		s := raw(c.bytes)
		for at := range s {
			for b := range 256 {
				wrong := put(s, at, byte(b))
				if wrong != s {
					expectNotRead(t, wrong)
				}
			}
		}
		for at := range 16 {
			for b := range 256 {
				body := put(s[:16], at, byte(b))
				number := func(from int) int { return int(binary.BigEndian.Uint32([]byte(body[from:]))) }
				r := latch.Record{
					Seq: number(0), Cycle: number(4), InPhase: number(12),
					Phase: int(body[8] & 3), Flight: int(body[8] >> 2 & 3), State: int(body[8] >> 4),
					Violations: int(body[9]), Disputes: int(body[10]), Invalid: int(body[11]),
				}
				if r.Seq < 1 || r.Seq > maxSeq || r.Cycle > 1000000 || r.InPhase > 1000000 || r.Flight > 1 || r.State > 2 {
					expectNotRead(t, laid(body))
				} else {
					expectPrinted(t, r, laid(body))
				}
			}
		}
	}
}

func TestBothSeqsAreOne(t *testing.T) {
	s := slot(known[1].r)
	for _, seq := range []uint32{0, 1, 3, 258, 1 << 24, maxSeq, 1<<32 - 1} {
		expectNotRead(t, s[:20]+four(seq))
		// The sum holds, as it is that of what stands ahead of it.
		expectNotRead(t, laid(four(seq) + s[4:16])[:20]+s[20:])
	}
}

func TestTheSumIsOfSixteenBytes(t *testing.T) {
	s := slot(known[1].r)
	for _, text := range []string{s[4:16], s[:12], s[:8], s[:4] + s[4:15], s[:16] + s[20:], s[4:16] + s[:4], ""} {
		expectNotRead(t, s[:16]+four(crc32.ChecksumIEEE([]byte(text)))+s[20:])
	}
	sum := crc32.ChecksumIEEE([]byte(s[:16]))
	for _, wrong := range []uint32{0, sum - 1, sum + 1, ^sum, sum<<8 | sum>>24, math.MaxUint32} {
		expectNotRead(t, s[:16]+four(wrong)+s[20:])
	}
}

func TestWhatIsPrintedIsReadAsItWas(t *testing.T) {
	x := noise(2463534242)
	for range 20000 {
		r := x.record()
		expectRight(t, r, true)
		expectPrinted(t, r, slot(r))
	}
}

func TestOpenWithoutPlaces(t *testing.T) {
	for _, c := range []struct{ size, base int }{
		{48, -1}, {48, 1}, {48, 24}, {48, 48}, {48, 49}, {47, 0}, {24, 0}, {1, 0}, {1, -1}, {96, 49}, {96, -24},
		{4096, 4049}, {4096, 4096}, {4096, math.MaxInt}, {4096, math.MinInt}, {4096, math.MaxInt - 47}, {48, 1 << 32}, {48, -1 << 32},
	} {
		if l, e := latch.Open(holding(t, blank(c.size)), c.base); l != nil || e != api.ErrRange {
			t.Errorf("Open at %d of %d: %v, %d", c.base, c.size, l, e)
		}
	}
	for _, c := range []struct{ size, base int }{{48, 0}, {49, 0}, {49, 1}, {96, 48}, {96, 17}, {4096, 4048}} {
		expectOpened(t, holding(t, blank(c.size)), c.base, none)
	}
}

func TestOpenOfNoFlashAndWithoutPower(t *testing.T) {
	for _, base := range []int{0, -1, 1, math.MinInt, math.MaxInt} {
		if l, e := latch.Open(nil, base); l != nil || e != api.ErrNil {
			t.Errorf("Open of none at %d: %v, %d", base, l, e)
		}
		f := holding(t, slot(known[0].r)+blank(24))
		f.Tear(0)
		f.Write(0, "")
		if l, e := latch.Open(f, base); l != nil || e != api.ErrDown {
			t.Errorf("Open without power at %d: %v, %d", base, l, e)
		}
		f.Up()
		expectOpened(t, f, 0, known[0].r)
	}
}

func TestTheGreaterSeqIsKept(t *testing.T) {
	x := noise(362436069)
	at := func(seq int) latch.Record {
		r := x.record()
		r.Seq = seq
		return r
	}
	wrong := []string{blank(24), strings.Repeat("\x00", 24), slot(at(5))[:23] + "\x00", put(slot(at(9)), 10, 1), laid(four(maxSeq+1) + slot(at(1))[4:16]), slot(none)}
	for _, seqs := range [][2]int{{1, 2}, {2, 3}, {1, maxSeq}, {maxSeq - 1, maxSeq}, {255, 256}, {256, 511}, {1<<24 - 1, 1 << 24}} {
		less, greater := at(seqs[0]), at(seqs[1])
		expectOpened(t, holding(t, slot(less)+slot(greater)), 0, greater)
		expectOpened(t, holding(t, slot(greater)+slot(less)), 0, greater)
		for _, s := range wrong {
			expectOpened(t, holding(t, slot(less)+s), 0, less)
			expectOpened(t, holding(t, s+slot(less)), 0, less)
		}
	}
	for _, seq := range []int{1, 2, maxSeq} {
		one, other := at(seq), at(seq)
		expectOpened(t, holding(t, slot(one)+slot(other)), 0, one)
		expectOpened(t, holding(t, slot(other)+slot(one)), 0, other)
	}
	for _, s := range wrong {
		for _, other := range wrong {
			expectOpened(t, holding(t, s+other), 0, none)
		}
	}
}

func TestSlotsAreAtTheBase(t *testing.T) {
	x := noise(521288629)
	one, other := known[1].r, known[3].r
	for _, base := range []int{0, 1, 7, 24, 48, 100} {
		around := [2]string{x.text(base), x.text(30)}
		f := holding(t, around[0]+slot(other)+slot(one)+around[1])
		l := opened(t, f, base)
		expectLast(t, l, other)
		r := x.record()
		expectSave(t, l, r, api.OK)
		r.Seq = other.Seq + 1
		expectBytes(t, f, around[0]+slot(other)+slot(r)+around[1])
		s := x.record()
		expectSave(t, l, s, api.OK)
		s.Seq = other.Seq + 2
		expectBytes(t, f, around[0]+slot(s)+slot(r)+around[1])
		expectOpened(t, f, base, s)
	}
}

func TestOpenWritesNothing(t *testing.T) {
	f := holding(t, slot(known[0].r)+blank(24))
	f.Tear(3)
	expectOpened(t, f, 0, known[0].r)
	if f.Writes() != 1 || f.Down() {
		t.Errorf("%d writes, down %v", f.Writes(), f.Down())
	}
}

// P9.2

func TestSavesGoToBothSlotsInTurn(t *testing.T) {
	f := holding(t, blank(48))
	l := opened(t, f, 0)
	expectLast(t, l, none)
	x := noise(88675123)
	stand := [2]string{blank(24), blank(24)}
	for i := range 1000 {
		r := x.record()
		// The Seq that it is handed, right or wrong, doesn't count.
		r.Seq = []int{0, -1, 1, i, maxSeq, maxSeq + 1, math.MinInt, math.MaxInt}[i%8]
		expectSave(t, l, r, api.OK)
		r.Seq = i + 1
		stand[i%2] = slot(r)
		expectBytes(t, f, stand[0]+stand[1])
		expectLast(t, l, r)
		expectOpened(t, f, 0, r)
	}
	if f.Writes() != 1001 {
		t.Errorf("%d writes, want one a Save", f.Writes())
	}
}

func TestSaveGoesOnFromWhatIsKept(t *testing.T) {
	x := noise(5783321)
	five, nine := x.record(), x.record()
	five.Seq, nine.Seq = 5, 9
	same := x.record()
	same.Seq = 9
	for _, c := range []struct {
		first, second string
		seq, into     int
	}{
		{blank(24), blank(24), 1, 0},
		{slot(five), blank(24), 6, 1},
		{blank(24), slot(five), 6, 0},
		{slot(five), slot(nine), 10, 0},
		{slot(nine), slot(five), 10, 1},
		{slot(nine), slot(same), 10, 1},
		{slot(five)[:23] + "x", x.text(24), 1, 0},
	} {
		f := holding(t, c.first+c.second)
		l := opened(t, f, 0)
		r := x.record()
		expectSave(t, l, r, api.OK)
		r.Seq = c.seq
		stand := [2]string{c.first, c.second}
		stand[c.into] = slot(r)
		expectBytes(t, f, stand[0]+stand[1])
		expectLast(t, l, r)
		expectOpened(t, f, 0, r)
	}
}

// TestWhatMayNotBeIsntSaved: neither the flash nor the latch can tell that it was tried.
func TestWhatMayNotBeIsntSaved(t *testing.T) {
	for _, r := range []latch.Record{known[0].r, known[1].r, known[2].r} {
		kept := known[3].r
		stand := slot(kept) + blank(24)
		f := holding(t, stand)
		l := opened(t, f, 0)
		f.Tear(3)
		for _, wrong := range fields(&r) {
			was := *wrong.number
			for _, n := range wrong.wrong {
				*wrong.number = n
				expectSave(t, l, r, api.ErrArg)
				expectLast(t, l, kept)
				if f.Writes() != 1 || f.Down() {
					t.Fatalf("%d writes, down %v", f.Writes(), f.Down())
				}
			}
			*wrong.number = was
		}
		f.Up()
		expectBytes(t, f, stand)
		expectSave(t, l, r, api.OK)
		r.Seq = kept.Seq + 1
		expectLast(t, l, r)
		expectBytes(t, f, slot(kept)+slot(r))
	}
}

func TestTheLastSeqHasNoneBehindIt(t *testing.T) {
	kept := known[1].r
	kept.Seq = maxSeq - 1
	f := holding(t, blank(24)+slot(kept))
	l := opened(t, f, 0)
	expectSave(t, l, known[3].r, api.OK)
	last := known[3].r
	last.Seq = maxSeq
	for range 3 {
		expectLast(t, l, last)
		expectBytes(t, f, slot(last)+slot(kept))
		expectSave(t, l, known[4].r, api.ErrArg)
	}
	expectOpened(t, f, 0, last)
}

func TestSaveWithoutPower(t *testing.T) {
	f := holding(t, blank(48))
	l := opened(t, f, 0)
	first, second := known[1].r, known[3].r
	expectSave(t, l, first, api.OK)
	first.Seq = 1
	f.Tear(0)
	f.Write(0, "")
	for range 3 {
		expectSave(t, l, second, api.ErrDown)
		expectLast(t, l, first)
	}
	expectSave(t, l, latch.Record{Phase: 4}, api.ErrArg)
	f.Up()
	expectBytes(t, f, slot(first)+blank(24))
	expectSave(t, l, second, api.OK)
	second.Seq = 2
	expectLast(t, l, second)
	expectBytes(t, f, slot(first)+slot(second))
}

func TestNilIsNothing(t *testing.T) {
	var l *latch.Latch
	for _, r := range []latch.Record{none, known[0].r, known[2].r, {Phase: 4}} {
		expectSave(t, l, r, api.ErrNil)
		expectLast(t, l, none)
	}
}

func TestLatchesInOneFlashAreTheirOwn(t *testing.T) {
	f := holding(t, blank(96))
	a, b := opened(t, f, 0), opened(t, f, 48)
	one, other := known[1].r, known[3].r
	expectSave(t, a, one, api.OK)
	one.Seq = 1
	expectLast(t, b, none)
	expectSave(t, b, other, api.OK)
	expectSave(t, b, other, api.OK)
	expectLast(t, a, one)
	other.Seq = 2
	expectLast(t, b, other)
	expectOpened(t, f, 0, one)
	expectOpened(t, f, 48, other)
}

// P9.3

// torn saves r in a flash with these two slots, the write torn behind so many bytes, and answers the flash, with the power on again, and what stood in the slot that was written.
func torn(t *testing.T, slots [2]string, into int, r latch.Record, bytes int) (*flash.Flash, string) {
	t.Helper()
	f := holding(t, slots[0]+slots[1])
	l := opened(t, f, 0)
	before, _ := l.Last()
	f.Tear(bytes)
	expectSave(t, l, r, api.ErrDown)
	expectLast(t, l, before)
	f.Up()
	expectLast(t, l, before)
	stands, e := f.Read(24*into, 24)
	if e != api.OK {
		t.Fatal(e)
	}
	r.Seq = before.Seq + 1
	slots[into] = slot(r)[:min(bytes, 24)] + slots[into][min(bytes, 24):]
	expectBytes(t, f, slots[0]+slots[1])
	return f, stands
}

func TestATornWriteLosesNothing(t *testing.T) {
	x := noise(123456789)
	for range 200 {
		seq := 1 + x.below(1000)
		if x.below(4) == 0 {
			// Where many bytes of the Seq turn at once.
			seq = []int{254, 255, 65534, 65535, 1<<24 - 2, 1<<24 - 1, maxSeq - 2, maxSeq - 1}[x.below(8)]
		}
		last, older, r := x.record(), x.record(), x.record()
		last.Seq, older.Seq = seq, max(1, seq-1)
		for _, c := range []struct {
			slots [2]string
			into  int
			last  latch.Record
		}{
			{[2]string{slot(last), slot(older)}, 1, last},
			{[2]string{blank(24), slot(last)}, 0, last},
			{[2]string{slot(last), x.text(24)}, 1, last},
			{[2]string{slot(last)[:20] + blank(4), x.text(24)}, 0, none},
			{[2]string{blank(24), blank(24)}, 0, none},
		} {
			r.Seq = c.last.Seq + 1
			for bytes := range 26 {
				f, stands := torn(t, c.slots, c.into, r, bytes)
				want := c.last
				if stands == slot(r) {
					want = r
				}
				expectOpened(t, f, 0, want)
			}
		}
	}
}

// TestAllBytesMayStandAhead: a write that is torn early is whole where what stood there is the same behind it.
func TestAllBytesMayStandAhead(t *testing.T) {
	kept, r := known[1].r, known[3].r
	r.Seq = kept.Seq + 1
	for same := range 24 {
		other := ""
		for i := range 24 - same {
			other += string([]byte{slot(r)[i] ^ 0x40})
		}
		into := other + slot(r)[24-same:]
		for bytes := range 25 {
			f, stands := torn(t, [2]string{slot(kept), into}, 1, r, bytes)
			want := kept
			if bytes+same >= 24 {
				want = r
			}
			if (stands == slot(r)) != (want == r) {
				t.Fatalf("behind %d bytes %x stands", bytes, stands)
			}
			expectOpened(t, f, 0, want)
		}
	}
}

func TestTheThirdWriteTorn(t *testing.T) {
	f := holding(t, blank(48))
	l := opened(t, f, 0)
	expectSave(t, l, latch.Record{Cycle: 1}, api.OK)
	expectSave(t, l, latch.Record{Cycle: 2}, api.OK)
	f.Tear(10)
	expectSave(t, l, latch.Record{Cycle: 3}, api.ErrDown)
	f.Up()
	expectOpened(t, f, 0, latch.Record{Seq: 2, Cycle: 2})
}

// TestTornTimeAndAgain saves through many torn writes, and opens again behind each one.
func TestTornTimeAndAgain(t *testing.T) {
	x := noise(987654321)
	f := holding(t, blank(48))
	l := opened(t, f, 0)
	last := none
	for range 3000 {
		r := x.record()
		tears := x.below(2) == 0
		bytes := x.below(27)
		if tears {
			f.Tear(bytes)
			expectSave(t, l, r, api.ErrDown)
			expectLast(t, l, last)
			f.Up()
			l = opened(t, f, 0)
		} else {
			expectSave(t, l, r, api.OK)
		}
		r.Seq = last.Seq + 1
		if !tears || bytes >= 24 {
			last = r
		}
		expectLast(t, l, last)
	}
	if last.Seq < 1500 {
		t.Errorf("only %d were saved", last.Seq)
	}
}

// TestSaveBehindATornWrite: one that isn't opened again goes on from the last one that was saved, to the slot that was torn.
func TestSaveBehindATornWrite(t *testing.T) {
	kept := known[1].r
	for bytes := range 26 {
		f := holding(t, slot(kept)+blank(24))
		l := opened(t, f, 0)
		f.Tear(bytes)
		expectSave(t, l, known[3].r, api.ErrDown)
		f.Up()
		r := known[4].r
		expectSave(t, l, r, api.OK)
		r.Seq = kept.Seq + 1
		expectBytes(t, f, slot(kept)+slot(r))
		expectLast(t, l, r)
		expectOpened(t, f, 0, r)
	}
}
