package unit

import "testing"

// TestCarried asks it from within: a word that is lost and one with a turned byte are both never heard, so that no answer tells which one it was.
func TestCarried(t *testing.T) {
	for _, c := range []struct {
		word string
		how  int
		want string
	}{
		{"\xa5\x5axyz", 0, "\xa5\x5axyz"}, {"\xa5\x5axyz", 1, ""}, {"\xa5\x5axyz", 2, "\xa4\x5axyz"}, {"\xa5\x5axyz", 255, "\xa4\x5axyz"}, {"\xa5\x5axyz", -1, "\xa4\x5axyz"},
		{"\x00", 3, "\x01"}, {"\xff", 2, "\xfe"}, {"", 0, ""}, {"", 1, ""}, {"", 2, ""}, {"", -5, ""},
	} {
		if got := carried(c.word, c.how); got != c.want {
			t.Errorf("%x by %d: %x, want %x", c.word, c.how, got, c.want)
		}
	}
}
