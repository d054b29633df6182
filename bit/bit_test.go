package bit_test

import (
	"encoding/binary"
	"hash/crc32"
	"math"
	"reflect"
	"slices"
	"testing"

	"apogee/api"
	"apogee/bit"
	"apogee/rulefile"
)

// mission are rules that may be.
func mission() api.Rules {
	area := []api.Point{{X: -900, Y: -900}, {X: 900, Y: -900}, {X: 900, Y: 900}, {X: -900, Y: 900}}
	return api.Rules{
		Phases: []api.Phase{{Area: area, G: 2, MaxV: 90, Min: 5, Up: 1000}, {Area: area[:3], G: 3, MaxV: 80, Min: 6}},
		N:      2, D: 3, Green: 4, Eps: 1, Step: 9, Age: 2, Lift: 50, Safing: 1,
	}
}

func image(t *testing.T) string {
	t.Helper()
	s, e := rulefile.Print(mission())
	if e != api.OK {
		t.Fatal(e)
	}
	return s
}

func expectTest(t *testing.T, image string, port int, rules api.Rules, faults int) {
	t.Helper()
	if r, got := bit.Test(image, port); got != faults || !reflect.DeepEqual(r, rules) {
		t.Fatalf("Test of %x, %d: %v, %d; want %v, %d", image, port, r, got, rules, faults)
	}
}

// ports are numbers with all bits, and what is wrong by each one.
func ports() map[int]int {
	all := map[int]int{
		-1: 6, -2: 4, -3: 2, -4: 0, -8: 0, math.MinInt: 0, math.MaxInt: 6, 1 << 32: 0, 1<<32 + 1: 2, 1<<32 + 2: 4, 1<<32 + 3: 6, 256: 0, 257: 2, 258: 4,
	}
	for port := range 256 {
		all[port] = 2 * (port % 4)
	}
	return all
}

func TestFaultNumbers(t *testing.T) {
	if got := [5]int{bit.BadRules, bit.BadPower, bit.BadLine, bit.BadSums, bit.BadNums}; got != [5]int{1, 2, 4, 8, 16} {
		t.Error(got)
	}
}

// P23.1

func TestHealthyImages(t *testing.T) {
	expectTest(t, image(t), 0, mission(), 0)
	expectTest(t, image(t), 1, mission(), bit.BadPower)
	expectTest(t, image(t), 2, mission(), bit.BadLine)
	// The rules are told beside other faults.
	for port, faults := range ports() {
		expectTest(t, image(t), port, mission(), faults)
	}
}

func TestImagesThatAreRefused(t *testing.T) {
	s := image(t)
	// N is 51, and the sum holds.
	body := []byte(s[:5] + "\x33" + s[6:len(s)-4])
	wrong := string(binary.BigEndian.AppendUint32(body, crc32.ChecksumIEEE(body)))
	refused := []string{wrong, "", "A", "AFTU", "XFTU", s[:len(s)-1], s + "\x00", s[1:], string(make([]byte, 64))}
	for i := range s {
		for b := range 8 {
			list := []byte(s)
			list[i] ^= 1 << b
			refused = append(refused, string(list))
		}
	}
	for _, bad := range refused {
		expectTest(t, bad, 0, api.Rules{}, bit.BadRules)
	}
	for port, faults := range ports() {
		expectTest(t, refused[5], port, api.Rules{}, bit.BadRules+faults)
	}
}

func TestNames(t *testing.T) {
	words := []string{"rules", "power", "line", "sums", "numbers"}
	for faults := range 32 {
		var want []string
		for i, word := range words {
			if faults>>i%2 == 1 {
				want = append(want, word)
			}
		}
		// Other bits have no names.
		for _, other := range []int{0, 32, 64, 128, 224, 1 << 20, 1 << 40, math.MinInt} {
			if got := bit.Names(faults | other); !slices.Equal(got, want) {
				t.Errorf("Names of %d: %q, want %q", faults|other, got, want)
			}
		}
	}
	if got := bit.Names(-1); !slices.Equal(got, words) {
		t.Errorf("Names of -1: %q", got)
	}
	list := bit.Names(31)
	list[0] = "x"
	if got := bit.Names(31); !slices.Equal(got, words) {
		t.Errorf("Names of 31, once more: %q", got)
	}
}

func TestHealthy(t *testing.T) {
	if !bit.Healthy(0) {
		t.Error("0 isn't healthy")
	}
	for _, faults := range []int{1, 2, 3, 4, 8, 16, 31, 32, 64, 128, 1 << 40, -1, math.MinInt, math.MaxInt} {
		if bit.Healthy(faults) {
			t.Errorf("%d is healthy", faults)
		}
	}
}

// P23.2

func TestSumsAndNumbers(t *testing.T) {
	for range 3 {
		if !bit.Sums() || !bit.Numbers() {
			t.Error(bit.Sums(), bit.Numbers())
		}
	}
}
