package frame_test

import (
	"strings"
	"testing"

	"recall/api"
	"recall/frame"
	"recall/machine"
)

// What is written is read again.
func TestP8ReadWhatIsWritten(t *testing.T) {
	s := machine.Beginning()
	s.N, s.Pc, s.Clock, s.Handler, s.Back, s.Pending = 9999, 32, 40000, 31, 0, true
	f, written := frame.Read(frame.OfState(65535, s))
	if !written || f.Kind != 'C' || f.Number != 65535 || f.N != 9999 || f.State != s || f.Reach() != 9999 {
		t.Errorf("a state: %+v, %t", f, written)
	}
	c := api.Choice{Input: 255, Ticks: 254, Interrupt: true}
	f, written = frame.Read(frame.OfChoice(256, 9999, c))
	if !written || f.Kind != 'E' || f.Number != 256 || f.N != 9999 || f.Choice != c || f.Reach() != 10000 {
		t.Errorf("a choice: %+v, %t", f, written)
	}
}

func TestP8ReadLengths(t *testing.T) {
	good := frame.OfState(0, machine.Beginning())
	for size := range 200 {
		text := strings.Repeat(good, 5)[:size]
		if f, written := frame.Read(text); written != (size == api.Frame) {
			t.Errorf("%d bytes: %+v, %t", size, f, written)
		}
	}
}

func TestP8NextNumber(t *testing.T) {
	for number, want := range map[int]int{0: 1, 255: 256, 65534: 65535, 65535: 0} {
		if next := frame.Next(number); next != want {
			t.Errorf("behind %d comes %d, want %d", number, next, want)
		}
	}
}
