package recall_test

import (
	"hash/crc32"
	"strings"
	"testing"

	"recall/recall"
)

func wantSum(t *testing.T, s string, want int) {
	t.Helper()
	if got := recall.Sum(s); got != want {
		t.Fatalf("Sum(%.40q) = %d, want %d", s, got, want)
	}
}

func TestP5Examples(t *testing.T) {
	wantSum(t, "", 0)
	wantSum(t, "123456789", 3421780262)
	wantSum(t, "a", 3904355907)
}

// The library's sum is the same one, told by other hands.
func TestP5LikeTheLibrary(t *testing.T) {
	all := ""
	for b := 0; b < 256; b++ {
		one := string([]byte{byte(b)})
		all += one
		for _, s := range []string{one, "a" + one, one + "\x00", strings.Repeat(one, 36), all} {
			wantSum(t, s, int(crc32.ChecksumIEEE([]byte(s))))
		}
	}
	for _, s := range []string{
		"\x80", "\xff", "\xff\xff\xff\xff", "\x00\x00\x00\x00", "\x00\x00\x00\x00\x00", "é",
		strings.Repeat(all, 4000),
	} {
		wantSum(t, s, int(crc32.ChecksumIEEE([]byte(s))))
	}
}
