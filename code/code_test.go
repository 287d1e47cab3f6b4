package code

import (
	"math"
	"testing"
)

func TestAt(t *testing.T) {
	for _, c := range []struct {
		program string
		at      int
		want    Instruction
		found   bool
	}{
		{"=df+ba", 0, Instruction{'=', 3, 15}, true},
		{"=df+ba", 1, Instruction{'+', 1, 0}, true},
		{"=df+ba", 2, Instruction{}, false},
		{"=df+ba", -1, Instruction{}, false},
		{"=df+ba", math.MaxInt, Instruction{}, false},
		{"=df+ba", math.MinInt, Instruction{}, false},
		{"=df+ba", math.MaxInt/Width + 1, Instruction{}, false},
		{"", 0, Instruction{}, false},
		{"j.vh..", 0, Instruction{'j', 0, 31}, true},
		{"j.vh..", 1, Instruction{'h', 0, 0}, true},
	} {
		in, found := At(c.program, c.at)
		if in != c.want || found != c.found {
			t.Errorf("At(%q, %d) = %+v, %v, want %+v, %v", c.program, c.at, in, found, c.want, c.found)
		}
	}
}
