package frame_test

import (
	"encoding/hex"
	"math"
	"slices"
	"strings"
	"testing"
	"unsafe"

	"apogee/api"
	"apogee/crc"
	"apogee/frame"
)

// most is how many bytes a frame takes at most.
const most = 2 + 2 + api.MaxFrame + 2

// raw is the text that is written in digits of sixteen, with spaces anywhere.
func raw(digits string) string {
	list, err := hex.DecodeString(strings.ReplaceAll(digits, " ", ""))
	if err != nil {
		panic(err)
	}
	return string(list)
}

// laid lays a frame's bytes, whether it may be or not, with any number of two bytes as its sum.
func laid(kind, length byte, payload string, sum uint16) string {
	return "\xa5\x5a" + string([]byte{kind, length}) + payload + string([]byte{byte(sum >> 8), byte(sum)})
}

// built is what Print should tell.
func built(kind int, payload string) string {
	body := string([]byte{byte(kind), byte(len(payload))}) + payload
	return laid(byte(kind), byte(len(payload)), payload, crc.Sum16(body))
}

// turned is a text with one bit turned.
func turned(s string, bit int) string {
	list := []byte(s)
	list[bit/8] ^= 1 << (bit % 8)
	return string(list)
}

type noise uint64

func (x *noise) next() int {
	*x ^= *x << 13
	*x ^= *x >> 7
	*x ^= *x << 17
	return int(*x >> 33)
}

func (x *noise) below(n int) int { return x.next() % n }

func (x *noise) text(length int) string {
	list := make([]byte, length)
	for i := range list {
		list[i] = byte(x.next())
	}
	return string(list)
}

// markish is noise in which the bytes that frames begin with are many.
func (x *noise) markish(length int) string {
	list := make([]byte, length)
	for i := range list {
		list[i] = []byte{0xa5, 0x5a, 0, 1, 2, 64, 65, 255}[x.below(8)]
	}
	return string(list)
}

// stream is frames, frames that are broken, frames in frames, and noise, one behind the other.
func (x *noise) stream(parts int) string {
	all := ""
	for range parts {
		one := built(x.below(256), x.text(x.below(api.MaxFrame+1)))
		switch x.below(9) {
		case 0, 1:
			all += one
		case 2:
			all += turned(one, x.below(8*len(one)))
		case 3:
			all += one[:x.below(len(one))]
		case 4:
			all += x.markish(x.below(100))
		case 5:
			all += x.text(x.below(20))
		case 6:
			inner := built(x.below(256), x.text(x.below(9)))
			all += turned(built(x.below(256), x.text(x.below(9))+inner), x.below(32))
		case 7:
			all += built(x.below(256), built(x.below(256), x.markish(x.below(50))))
		case 8:
			all += built(x.below(256), x.markish(x.below(5)))
		}
	}
	return all
}

// pieces are all of a text, cut at some places; some are empty.
func (x *noise) pieces(s string, longest int) []string {
	var list []string
	for s != "" {
		n := min(len(s), x.below(longest+1))
		list = append(list, s[:n])
		s = s[n:]
	}
	return list
}

// expectRead holds Read against the chapter's words, which are asked in another order here: for each frame that could be meant the bytes are laid.
func expectRead(t *testing.T, s string) {
	t.Helper()
	want, size, e := wanted(s)
	if f, n, got := frame.Read(s); f != want || n != size || got != e {
		t.Fatalf("Read of %x: %x, %d, %d; want %x, %d, %d", s, f, n, got, want, size, e)
	}
}

func wanted(s string) (frame.Frame, int, api.Errno) {
	for i := range min(2, len(s)) {
		if s[i] != "\xa5\x5a"[i] {
			return frame.Frame{}, 0, api.ErrForm
		}
	}
	if len(s) < 4 {
		return frame.Frame{}, 0, api.ErrShort
	}
	kind, length := int(s[2]), int(s[3])
	if length > 64 {
		return frame.Frame{}, 0, api.ErrForm
	}
	if len(s) < length+6 {
		return frame.Frame{}, 0, api.ErrShort
	}
	payload := s[4 : length+4]
	if !strings.HasPrefix(s, built(kind, payload)) {
		return frame.Frame{}, 0, api.ErrSum
	}
	return frame.Frame{Kind: kind, Payload: payload}, length + 6, api.OK
}

// told is what a stream should tell of all bytes at once.
func told(s string) (list []frame.Frame, left, dropped int) {
	for at := 0; at < len(s); {
		f, n, e := wanted(s[at:])
		switch e {
		case api.ErrShort:
			return list, len(s) - at, dropped
		case api.OK:
			list = append(list, f)
			at += n
		default:
			dropped++
			at++
		}
	}
	return list, 0, dropped
}

func expectStream(t *testing.T, call string, x *frame.Stream, left, dropped int) {
	t.Helper()
	if x.Left() != left || x.Dropped() != dropped {
		t.Fatalf("%s: %d wait, %d dropped; want %d, %d", call, x.Left(), x.Dropped(), left, dropped)
	}
}

// known are frames and their bytes, with sums that were reckoned elsewhere.
var known = []struct {
	kind           int
	payload, bytes string
}{
	{0, "", "a5 5a 00 00 1d 0f"},
	{255, "", "a5 5a ff 00 1e f0"},
	{16, "\x00", "a5 5a 10 01 00 bc ce"},
	{1, "123456789", "a5 5a 01 09 31 32 33 34 35 36 37 38 39 18 8b"},
	{48, "\xa5\x5a", "a5 5a 30 02 a5 5a df 7d"},
	{32, strings.Repeat("A", 64), "a5 5a 20 40" + strings.Repeat("41", 64) + "2d ee"},
	{255, strings.Repeat("\xff", 64), "a5 5a ff 40" + strings.Repeat("ff", 64) + "1b 4a"},
}

// noFrames are such as may not be.
var noFrames = []frame.Frame{
	{Kind: -1}, {Kind: 256}, {Kind: -256}, {Kind: 511}, {Kind: 1 << 16}, {Kind: 1<<32 + 16}, {Kind: math.MinInt}, {Kind: math.MaxInt},
	{Kind: -1, Payload: "a"}, {Kind: 256, Payload: strings.Repeat("a", 64)},
	{Payload: strings.Repeat("a", 65)}, {Kind: 255, Payload: strings.Repeat("a", 65)}, {Kind: 16, Payload: strings.Repeat("a", 128)},
	{Kind: 16, Payload: strings.Repeat("a", 256)}, {Kind: 16, Payload: strings.Repeat("a", 256+64)}, {Kind: 16, Payload: strings.Repeat("a", 1<<16)},
	{Kind: -1, Payload: strings.Repeat("a", 65)},
}

// P5.1

func TestKnownFrames(t *testing.T) {
	for _, c := range known {
		f, want := frame.Frame{Kind: c.kind, Payload: c.payload}, raw(c.bytes)
		if !frame.Right(f) {
			t.Errorf("%x may not be", f)
		}
		if got := frame.Print(f); got != want {
			t.Errorf("Print of %x: %x, want %x", f, got, want)
		}
		for _, behind := range []string{"", "\x00", "\xa5", "\xa5\x5a\x00\x41", want, strings.Repeat("\xff", 2000)} {
			if got, n, e := frame.Read(want + behind); got != f || n != len(want) || e != api.OK {
				t.Errorf("Read of %x: %x, %d, %d", want+behind, got, n, e)
			}
		}
	}
}

func TestAnyFrameIsReadAsPrinted(t *testing.T) {
	x := noise(88172645463325252)
	for kind := range 256 {
		for length := range api.MaxFrame + 1 {
			f := frame.Frame{Kind: kind, Payload: x.text(length)}
			if !frame.Right(f) {
				t.Fatalf("%x may not be", f)
			}
			s := frame.Print(f)
			if s != built(kind, f.Payload) || len(s) != length+6 {
				t.Fatalf("Print of %x: %x", f, s)
			}
			if got, n, e := frame.Read(s + x.text(x.below(8))); got != f || n != len(s) || e != api.OK {
				t.Fatalf("Read of %x: %x, %d, %d", s, got, n, e)
			}
		}
	}
}

func TestWhatMayNotBeIsNotPrinted(t *testing.T) {
	for _, f := range noFrames {
		if frame.Right(f) || frame.Print(f) != "" {
			t.Errorf("kind %d, %d bytes: may be: %v, printed as %x", f.Kind, len(f.Payload), frame.Right(f), frame.Print(f))
		}
	}
}

func expectErr(t *testing.T, s string, want api.Errno) {
	t.Helper()
	if f, n, e := frame.Read(s); f != (frame.Frame{}) || n != 0 || e != want {
		t.Errorf("Read of %x: %x, %d, %d; want %d", s, f, n, e, want)
	}
}

func TestReadOfABeginningIsShort(t *testing.T) {
	for _, c := range known {
		s := raw(c.bytes)
		for n := range len(s) {
			expectErr(t, s[:n], api.ErrShort)
		}
	}
	for _, digits := range []string{
		"", "a5", "a5 5a", "a5 5a a5", "a5 5a ff", "a5 5a 00 00", "a5 5a 00 40", "a5 5a 00 3f",
		// The first byte of the sum isn't asked as long as the other one is missing.
		"a5 5a 00 00 ff", "a5 5a 00 00 1c", "a5 5a 00 01 00 00",
		"a5 5a 00 40" + strings.Repeat("00", 65), "a5 5a 00 3f" + strings.Repeat("00", 64),
	} {
		expectErr(t, raw(digits), api.ErrShort)
	}
}

func TestReadOfWhatIsNoFrame(t *testing.T) {
	for _, digits := range []string{
		"00", "5a", "a4", "a7", "25", "ff", "5a a5", "a5 a5", "a5 00", "a5 5b", "a5 da", "00 a5", "5a a5 00 00 1d 0f",
		"a5 a5 5a 00 00 1d 0f", "00 a5 5a 00 00 1d 0f", "a5 5b 00 00 1d 0f",
		"a5 5a 00 41", "a5 5a 00 80", "a5 5a 00 ff", "a5 5a ff 41",
		"a5 5a 00 41" + strings.Repeat("00", 100), "a5 5a 00 ff" + strings.Repeat("00", 300),
	} {
		expectErr(t, raw(digits), api.ErrForm)
	}
	// A length beyond the greatest one is refused by itself, whatever the sum.
	for length := 65; length <= 255; length++ {
		expectErr(t, built(16, strings.Repeat("a", length)), api.ErrForm)
	}
}

func TestReadOfAWrongSum(t *testing.T) {
	for _, digits := range []string{
		"a5 5a 00 00 00 00", "a5 5a 00 00 0f 1d", "a5 5a 00 00 1d 0e", "a5 5a 00 00 1c 0f", "a5 5a 00 00 ff ff",
		"a5 5a 01 00 1d 0f", "a5 5a 00 01 1d 0f 00", "a5 5a 00 00 00 1d 0f",
	} {
		expectErr(t, raw(digits), api.ErrSum)
	}
	for _, payload := range []string{"", "a", "123456789", strings.Repeat("a", 64)} {
		length := byte(len(payload))
		for _, of := range []string{payload, string(length) + payload, "\xa5\x5a\x10" + string([]byte{length}) + payload} {
			expectErr(t, laid(16, length, payload, crc.Sum16(of)), api.ErrSum)
		}
	}
}

func TestOneTurnedBitIsSeen(t *testing.T) {
	for _, c := range known {
		s := raw(c.bytes)
		for bit := range 8 * len(s) {
			broken := turned(s, bit)
			expectRead(t, broken)
			if _, _, e := frame.Read(broken + strings.Repeat("\x00", most)); e != api.ErrForm && e != api.ErrSum {
				t.Errorf("Read of %x and more: %d", broken, e)
			}
		}
	}
}

func TestReadOfAnyText(t *testing.T) {
	var all func(s string, more int)
	all = func(s string, more int) {
		expectRead(t, s)
		if more == 0 {
			return
		}
		for _, c := range []byte{0xa5, 0x5a, 0, 1, 64, 65, 0x1d, 0x0f} {
			all(s+string([]byte{c}), more-1)
		}
	}
	all("", 4)
	all("\xa5\x5a", 5)
	for a := range 256 {
		expectRead(t, string([]byte{byte(a)}))
		for b := range 256 {
			expectRead(t, string([]byte{byte(a), byte(b)}))
			expectRead(t, "\xa5\x5a"+string([]byte{byte(a), byte(b)}))
			expectRead(t, "\xa5\x5a\x00\x00"+string([]byte{byte(a), byte(b)}))
		}
	}
	x := noise(2463534242)
	for range 3000 {
		s := x.stream(3)
		expectRead(t, s)
		if s != "" {
			expectRead(t, s[x.below(len(s)):])
		}
	}
}

// P5.2

type step struct {
	feed          string
	told          []frame.Frame
	left, dropped int
}

func expectSteps(t *testing.T, name string, steps []step) {
	t.Helper()
	x := frame.New()
	expectStream(t, name+", at first", x, 0, 0)
	for i, c := range steps {
		if got := x.Feed(raw(c.feed)); !slices.Equal(got, c.told) {
			t.Errorf("%s, step %d: %x, want %x", name, i, got, c.told)
		}
		if x.Left() != c.left || x.Dropped() != c.dropped {
			t.Errorf("%s, step %d: %d wait, %d dropped; want %d, %d", name, i, x.Left(), x.Dropped(), c.left, c.dropped)
		}
	}
}

func TestFeed(t *testing.T) {
	none, sixteen := frame.Frame{}, frame.Frame{Kind: 16, Payload: "\x00"}
	for name, steps := range map[string][]step{
		"a frame at once":       {{"a5 5a 00 00 1d 0f", []frame.Frame{none}, 0, 0}},
		"a frame in two pieces": {{"a5 5a 10 01", nil, 4, 0}, {"00 bc ce", []frame.Frame{sixteen}, 0, 0}},
		"a frame byte by byte": {
			{"a5", nil, 1, 0}, {"5a", nil, 2, 0}, {"00", nil, 3, 0}, {"00", nil, 4, 0}, {"1d", nil, 5, 0}, {"0f", []frame.Frame{none}, 0, 0},
		},
		"nothing": {{"", nil, 0, 0}, {"a5 5a", nil, 2, 0}, {"", nil, 2, 0}, {"00 00 1d 0f", []frame.Frame{none}, 0, 0}, {"", nil, 0, 0}},
		"frames, and the beginning of one": {
			{"a5 5a 00 00 1d 0f a5 5a 10 01 00 bc ce a5 5a 00", []frame.Frame{none, sixteen}, 3, 0},
			{"00 1d 0f a5 5a 00 00 1d 0f", []frame.Frame{none, none}, 0, 0},
		},
		"noise":           {{"00 01 02 ff", nil, 0, 4}, {"5a", nil, 0, 5}, {"a5 5a 00 00 1d 0f", []frame.Frame{none}, 0, 5}},
		"noise around":    {{"07 a5 5a 00 00 1d 0f 08 09 a5 5a 10 01 00 bc ce 0a", []frame.Frame{none, sixteen}, 0, 4}},
		"begun too early": {{"a5 a5 5a 00 00 1d 0f", []frame.Frame{none}, 0, 1}, {"a5 5a a5", nil, 3, 1}},
		"begun twice": {
			// The second a5 is a kind, the 5a a length that is too great.
			{"a5 5a a5 5a 00 00 1d 0f", []frame.Frame{none}, 0, 2},
		},
		"a length that is too great": {{"a5 5a 00", nil, 3, 0}, {"41", nil, 0, 4}, {"a5 5a 00 40", nil, 4, 4}},
		"a wrong sum":                {{"a5 5a 00 00 1d", nil, 5, 0}, {"0e", nil, 0, 6}, {"a5 5a 00 00 1d 0f", []frame.Frame{none}, 0, 6}},
		"a sum that is a beginning":  {{"a5 5a 00 00 a5", nil, 5, 0}, {"5a", nil, 2, 4}, {"00 00 1d 0f", []frame.Frame{none}, 0, 4}},
		"a frame in a broken frame":  {{"a5 5a 07 06 a5 5a 00 00 1d 0f 00 00", []frame.Frame{none}, 0, 6}},
		"a frame in a whole frame": {
			{hex.EncodeToString([]byte(built(7, built(0, "")))), []frame.Frame{{Kind: 7, Payload: built(0, "")}}, 0, 0},
		},
		"a frame that a broken one waits for": {
			{"a5 5a 07 08 a5 5a 00 00 1d 0f", nil, 10, 0}, {"00 00 00", nil, 13, 0}, {"00", []frame.Frame{none}, 0, 8},
		},
	} {
		expectSteps(t, name, steps)
	}
}

func TestTheFirstByteAloneIsDropped(t *testing.T) {
	x := frame.New()
	// Behind each mark a frame could begin that is as long as can be; all of them wait for the same byte.
	s := strings.Repeat("\xa5\x5a\x00\x40", 17) + "\xa5"
	if got := x.Feed(s); got != nil {
		t.Fatalf("%x", got)
	}
	expectStream(t, "all but one byte", x, most-1, 0)
	x.Feed("\x5a")
	expectStream(t, "the last byte", x, most-4, 4)
	x.Feed("\x00\x40\xa5")
	expectStream(t, "three bytes more", x, most-1, 4)
}

func TestNoMoreWaitThanAreAllowed(t *testing.T) {
	x, n := frame.New(), noise(7)
	for range 300 {
		x.Feed(n.markish(n.below(3000)))
		if x.Left() >= most || x.Left() > api.MaxStream {
			t.Fatalf("%d wait", x.Left())
		}
	}
	x = frame.New()
	x.Feed("\xa5\x5a\x00\x40" + strings.Repeat("\x00", 65))
	expectStream(t, "a frame without its last byte", x, 69, 0)
	x = frame.New()
	if got := x.Feed(strings.Repeat("\x00", 2000) + "\xa5\x5a"); got != nil {
		t.Errorf("%x", got)
	}
	expectStream(t, "noise that is longer than MaxStream", x, 2, 2000)
	if got := frame.New().Feed(strings.Repeat(built(16, "a"), 1000)); len(got) != 1000 {
		t.Errorf("frames that are longer than MaxStream: %d told", len(got))
	}
}

func TestDroppedStaysAtItsMost(t *testing.T) {
	x := frame.New()
	x.Feed(strings.Repeat("\x00", api.MaxCycles-2))
	expectStream(t, "two less", x, 0, api.MaxCycles-2)
	x.Feed("\x00")
	expectStream(t, "one less", x, 0, api.MaxCycles-1)
	for range 3 {
		x.Feed("\x00\x00\xa5")
		expectStream(t, "the most", x, 1, api.MaxCycles)
	}
	if got := x.Feed("\x5a\x00\x00\x1d\x0f"); !slices.Equal(got, []frame.Frame{{}}) {
		t.Errorf("a frame behind them: %x", got)
	}
	x = frame.New()
	x.Feed(strings.Repeat("\x00", 2*api.MaxCycles+1) + "\xa5")
	expectStream(t, "all at once", x, 1, api.MaxCycles)
}

func TestNilIsNothing(t *testing.T) {
	var x *frame.Stream
	for _, s := range []string{"", "\x00", "\xa5\x5a", built(0, ""), built(16, "a") + "\xff\xa5"} {
		if got := x.Feed(s); got != nil {
			t.Errorf("Feed of %x: %x", s, got)
		}
		expectStream(t, "nil", x, 0, 0)
	}
}

func TestStreamsAreByThemselves(t *testing.T) {
	a, b := frame.New(), frame.New()
	a.Feed("\x00\xa5\x5a\x00")
	expectStream(t, "the other one", b, 0, 0)
	b.Feed("\xa5")
	expectStream(t, "the first one", a, 3, 1)
	expectStream(t, "the other one", b, 1, 0)
}

// TestNothingHandedInIsKept feeds texts whose memory is another one's later on. They are long, as Go by itself copies short ones.
func TestNothingHandedInIsKept(t *testing.T) {
	x, ahead := frame.New(), strings.Repeat("\x00", 100)
	memory := []byte(ahead + built(16, "abc") + built(17, "defghi")[:7])
	list := x.Feed(unsafe.String(&memory[0], len(memory)))
	clear(memory)
	behind := x.Feed(built(17, "defghi")[7:])
	if want := []frame.Frame{{Kind: 16, Payload: "abc"}}; !slices.Equal(list, want) {
		t.Errorf("the first one: %x", list)
	}
	if want := []frame.Frame{{Kind: 17, Payload: "defghi"}}; !slices.Equal(behind, want) {
		t.Errorf("the second one: %x", behind)
	}
	memory = []byte(built(16, "abc") + ahead)
	f, _, _ := frame.Read(unsafe.String(&memory[0], len(memory)))
	clear(memory)
	if f.Payload != "abc" {
		t.Errorf("Read keeps: %x", f.Payload)
	}
}

func TestListsAreNew(t *testing.T) {
	x := frame.New()
	first := x.Feed(built(1, "a") + built(2, "b") + built(3, "c"))
	clear(first[:cap(first)])
	second := x.Feed(built(4, "d"))
	clear(first[:cap(first)])
	if !slices.Equal(second, []frame.Frame{{Kind: 4, Payload: "d"}}) {
		t.Errorf("%x", second)
	}
}

// P5.3

// expectFound feeds a text piece by piece, and holds what is told against what all bytes at once should tell, and against the bytes themselves.
func expectFound(t *testing.T, pieces []string) {
	t.Helper()
	x, fed := frame.New(), ""
	var list []frame.Frame
	for _, s := range pieces {
		fed += s
		list = append(list, x.Feed(s)...)
		want, left, dropped := told(fed)
		if !slices.Equal(list, want) {
			t.Fatalf("pieces %x: %x, want %x", pieces, list, want)
		}
		expectStream(t, "pieces of "+hex.EncodeToString([]byte(fed)), x, left, dropped)
	}
	whole, rest := 0, fed
	for _, f := range list {
		at := strings.Index(rest, frame.Print(f))
		if !frame.Right(f) || at < 0 {
			t.Fatalf("pieces %x: %x doesn't stand in them", pieces, f)
		}
		rest = rest[at+len(frame.Print(f)):]
		whole += len(frame.Print(f))
	}
	if whole+x.Dropped()+x.Left() != len(fed) {
		t.Fatalf("pieces %x: %d bytes of frames, %d dropped, %d wait, but %d in all", pieces, whole, x.Dropped(), x.Left(), len(fed))
	}
}

func TestFramesAreTheSameWhateverThePieces(t *testing.T) {
	x := noise(362436069)
	for i := range 600 {
		s := x.stream(1 + i%7)
		expectFound(t, []string{s})
		expectFound(t, x.pieces(s, 3))
		expectFound(t, x.pieces(s, 20))
		expectFound(t, x.pieces(s, 200))
	}
	for range 200 {
		expectFound(t, x.pieces(x.markish(300), 40))
	}
}

func TestFramesAreTheSameWhereverTheyAreCut(t *testing.T) {
	s := "\xa5" + built(0, "") + turned(built(7, built(1, "x")), 3) + "\xa5\x5a\x02\x09" + built(16, "\xa5\x5a") + built(255, "") + "\xa5\x5a\x41"
	expectFound(t, strings.Split(s, ""))
	for a := range len(s) + 1 {
		expectFound(t, []string{s[:a], s[a:]})
		for b := a; b <= len(s); b++ {
			expectFound(t, []string{s[:a], s[a:b], s[b:]})
		}
	}
}

// TestFramesAreFoundBehindAnyNoise: whatever comes ahead of them, at most those frames are lost that stand where a wrong beginning could reach.
func TestFramesAreFoundBehindAnyNoise(t *testing.T) {
	x := noise(521288629)
	good := frame.Frame{Kind: 16, Payload: "here"}
	printed := frame.Print(good)
	reach := most/len(printed) + 1
	for i := range 2000 {
		ahead := x.stream(1)
		if i%2 == 0 {
			ahead = x.markish(x.below(80))
		}
		stream := frame.New()
		list := stream.Feed(ahead + strings.Repeat(printed, 2*reach))
		found := 0
		for _, f := range list {
			if f == good {
				found++
			}
		}
		if found < reach || list[len(list)-1] != good {
			t.Fatalf("behind %x: %d of %d found", ahead, found, 2*reach)
		}
	}
}
