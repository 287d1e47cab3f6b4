package recall_test

import (
	"math"
	"strings"
	"testing"

	"recall/api"
	"recall/recall"
)

func wantChange(t *testing.T, what, program, trace string, n, cell, want int) {
	t.Helper()
	m, fault := recall.Changed(program, trace, n, cell)
	if m != want || fault != api.OK {
		t.Fatalf("%s: Changed(%q, .., %d, %d) = %d, %d, want %d, OK", what, program, n, cell, m, fault, want)
	}
}

func wantNoChange(t *testing.T, what, program, trace string, n, cell int, want api.Errno) {
	t.Helper()
	m, fault := recall.Changed(program, trace, n, cell)
	if m != 0 || fault != want {
		t.Fatalf("%s: Changed(%.100q, .., %d, %d) = %d, %d, want 0, %d", what, program, n, cell, m, fault, want)
	}
}

// Cell 0 is one more behind the steps 3, 6, 9 and so on.
func TestP10Counting(t *testing.T) {
	for _, period := range []int{1, 2, 3, 4, 7, 50} {
		x := made(t, counting, 64, period)
		walk(t, x, 50, api.Choice{})
		x.Save()
		first, last, _ := recall.Span(x.Trace())
		if first != 0 || last != 50 {
			t.Fatalf("Span = %d, %d", first, last)
		}
		for n := 0; n <= 50; n++ {
			want := n / 3 * 3
			if want == 0 {
				want = -1
			}
			wantChange(t, "cell 0", counting, x.Trace(), n, 0, want)
			for cell := 1; cell < 16; cell++ {
				wantChange(t, "another cell", counting, x.Trace(), n, cell, -1)
			}
		}
	}
}

// Every cell, by its number and by the number in a register.
func TestP10EveryCell(t *testing.T) {
	for cell := range 16 {
		for _, program := range []string{"=a1>a" + digits[cell:cell+1] + "j.2", "=a" + digits[cell:cell+1] + "+aa)aaj.3"} {
			trace := atTime(0, 0) + tick(1, 8)
			changed := -1
			for n := 0; n <= 9; n++ {
				s, fault := recall.At(program, trace, n)
				if fault != api.OK {
					t.Fatalf("At(%q, .., %d): %d", program, n, fault)
				}
				if s.Cells[cell] != 0 && changed < 0 {
					changed = n
				}
				wantChange(t, "a cell", program, trace, n, cell, changed)
			}
		}
	}
}

// A value that is written again, or goes away and comes back in one step, is
// no change; one that comes back later is two.
func TestP10SameValue(t *testing.T) {
	trace := atTime(0, 0) + tick(1, 19)
	wantChange(t, "written again and again", "=a7>a3j.1", trace, 20, 3, 2)
	wantChange(t, "nought is written", ">a3j.0", trace, 20, 3, -1)
	wantChange(t, "there and back", "=a7>a3>b3h..", atTime(0, 0)+tick(1, 3), 4, 3, 3)
	wantChange(t, "there", "=a7>a3>b3h..", atTime(0, 0)+tick(1, 3), 2, 3, 2)
	wantChange(t, "not yet", "=a7>a3>b3h..", atTime(0, 0)+tick(1, 3), 1, 3, -1)
	// From 255 to 0.
	wantChange(t, "round", "=a1-ba>b3+ba>b3j.5", trace, 20, 3, 5)
}

// That a state differs from the step that leads to it is a change too.
func TestP10ChangeAtAState(t *testing.T) {
	trace := stateFrame(0, marked(5, 1)) + stateFrame(1, marked(9, 2)) + stateFrame(2, marked(12, 2)) + tick(3, 14)
	for n := 5; n <= 15; n++ {
		want := -1
		if n >= 9 {
			want = 9
		}
		wantChange(t, "at a state", "j.0", trace, n, 9, want)
	}
	wantChange(t, "another cell", "j.0", trace, 15, 8, -1)
	// Of states of one time only the last tells: no change is between them.
	same := stateFrame(0, marked(5, 1)) + stateFrame(1, marked(7, 2)) + stateFrame(2, marked(7, 1)) + stateFrame(3, marked(8, 1))
	for n := 5; n <= 8; n++ {
		wantChange(t, "states of one time", "j.0", same, n, 9, -1)
	}
	first := stateFrame(0, marked(5, 1)) + stateFrame(1, marked(5, 2)) + stateFrame(2, marked(6, 2))
	wantChange(t, "states of the first time", "j.0", first, 5, 9, -1)
	wantChange(t, "states of the first time", "j.0", first, 6, 9, -1)
	// The program sets the cell, the next state has it otherwise.
	set := atTime(0, 0) + atTime(1, 4) + tick(2, 4)
	for n, want := range []int{-1, -1, 2, 2, 4, 4} {
		wantChange(t, "set and undone", "=a1>a9j.2", set, n, 9, want)
	}
}

// The first time of the span has none ahead of it.
func TestP10FirstTime(t *testing.T) {
	trace := stateFrame(0, marked(5, 1)) + tick(1, 5)
	wantChange(t, "the first time", "j.0", trace, 5, 9, -1)
	wantChange(t, "the next", ">a9", trace, 6, 9, 6)
	wantChange(t, "the next", "j.0", trace, 6, 9, -1)
	wantChange(t, "one time", "", atTime(0, 0), 0, 0, -1)
	wantChange(t, "one time", "", atTime(0, 10000), 10000, 15, -1)
}

func TestP10Choices(t *testing.T) {
	program := "?a.>a0j.0"
	trace := atTime(0, 0) + choiceFrame(1, 3, api.Choice{Input: 7}) + choiceFrame(2, 9, api.Choice{Input: 7}) + tick(3, 14)
	for n, want := range []int{-1, -1, -1, -1, -1, 5, 5, 5, 8, 8, 8, 11, 11, 11, 14, 14} {
		wantChange(t, "inputs", program, trace, n, 0, want)
	}
}

var noCells = []int{math.MinInt, -1 << 32, -16, -1, 16, 17, 255, 1<<32 + 1, math.MaxInt}

// The errors of At for n come first, ErrWrong among them; then the cell.
func TestP10FirstErrorNamed(t *testing.T) {
	halting := atTime(0, 5) + tick(1, 9)
	for _, cell := range append([]int{0, 15}, noCells...) {
		wantNoChange(t, "a program too long", strings.Repeat("j.0", 33), halting, 7, cell, api.ErrLong)
		wantNoChange(t, "a program too long", strings.Repeat("j.0", 33), "", 7, cell, api.ErrLong)
		wantNoChange(t, "no program", "j.", halting, 7, cell, api.ErrCode)
		wantNoChange(t, "no program", "j.", "", 7, cell, api.ErrCode)
		for _, n := range []int{math.MinInt, -1, 0, 7, math.MaxInt} {
			wantNoChange(t, "no run", "h..", "", n, cell, api.ErrFirst)
			wantNoChange(t, "no run", "h..", halting[40:], n, cell, api.ErrFirst)
		}
		for _, n := range []int{math.MinInt, -1, 4} {
			wantNoChange(t, "early", "h..", halting, n, cell, api.ErrEarly)
		}
		for _, n := range []int{11, 10001, math.MaxInt} {
			wantNoChange(t, "late", "h..", halting, n, cell, api.ErrLate)
		}
		for n := 7; n <= 10; n++ {
			wantNoChange(t, "a step that cannot be done", "h..", halting, n, cell, api.ErrWrong)
		}
	}
	for _, cell := range noCells {
		wantNoChange(t, "no cell", "h..", halting, 5, cell, api.ErrArg)
		wantNoChange(t, "no cell", "h..", halting, 6, cell, api.ErrArg)
		wantNoChange(t, "no cell", "j.0", halting, 10, cell, api.ErrArg)
	}
	wantChange(t, "a cell", "h..", halting, 6, 0, -1)
	wantChange(t, "a cell", "h..", halting, 6, 15, -1)
}

// From n downwards: a time that cannot be known hides what is below it, not
// what is above it.
func TestP10WrongOnTheWayDown(t *testing.T) {
	program := "=a1>a0h.."
	trace := atTime(0, 0) + atTime(1, 6) + tick(2, 8)
	wants := []struct {
		m     int
		fault api.Errno
	}{
		{-1, api.OK}, {-1, api.OK}, {2, api.OK}, {2, api.OK}, {0, api.ErrWrong}, {0, api.ErrWrong},
		{0, api.ErrWrong}, {0, api.ErrWrong}, {8, api.OK}, {8, api.OK},
	}
	for n, want := range wants {
		if want.fault == api.OK {
			wantChange(t, "down", program, trace, n, 0, want.m)
		} else {
			wantNoChange(t, "down", program, trace, n, 0, want.fault)
		}
	}
	// A cell that never changes is asked for down to the first time.
	for n := 6; n <= 9; n++ {
		wantNoChange(t, "never, and a gap", program, trace, n, 5, api.ErrWrong)
	}
	// The cell at 6 is not as it was at any time ahead, but 5 is not known;
	// nor does it matter how the cell of 3, the last that is known, stood.
	other := atTime(0, 0) + stateFrame(1, marked(6, 1)) + tick(2, 6)
	wantNoChange(t, "at the end of a gap", program, other, 6, 9, api.ErrWrong)
	wantNoChange(t, "behind a gap", program, other, 7, 9, api.ErrWrong)
	// With no gap, all is known: the program halts at 3, and the state is of 3.
	near := atTime(0, 0) + stateFrame(1, marked(3, 1)) + tick(2, 3)
	wantChange(t, "no gap", program, near, 3, 9, 3)
	wantChange(t, "no gap", program, near, 4, 9, 3)
	// Two gaps: what changed between them is told.
	two := atTime(0, 0) + atTime(1, 6) + stateFrame(2, marked(8, 1)) + tick(3, 8)
	wantChange(t, "above a gap", program, two, 8, 9, 8)
	wantChange(t, "above a gap", program, two, 9, 9, 8)
	wantNoChange(t, "down to a gap", program, two, 9, 5, api.ErrWrong)
	far := two + atTime(4, 13) + tick(5, 13)
	wantNoChange(t, "a second gap", program, far, 13, 9, api.ErrWrong)
	wantNoChange(t, "a second gap", program, far, 14, 9, api.ErrWrong)
}

// A long way down is not gone anew for each time.
func TestP10AllTheSteps(t *testing.T) {
	trace := atTime(0, 0) + tick(1, 9999)
	wantChange(t, "long ago", "=a1>a0"+strings.Repeat("+bb", 28)+"j.2", trace, 10000, 0, 2)
	wantChange(t, "never", "j.0", trace, 10000, 0, -1)
	wantChange(t, "at once", counting, trace, 10000, 0, 9999)
	wantNoChange(t, "wrong", "h..", trace, 10000, 0, api.ErrWrong)
}

func TestP10Example(t *testing.T) {
	x := example(t)
	wantChange(t, "the example", "j.0", x.Trace(), 12, 0, -1)
	wantChange(t, "the example", "j.0", x.Trace(), 11, 15, -1)
	wantNoChange(t, "the example", "j.0", x.Trace(), 10, 0, api.ErrEarly)
	wantNoChange(t, "the example", "j.0", x.Trace(), 13, 0, api.ErrLate)
	wantNoChange(t, "the example", "j.0", x.Trace(), 12, 16, api.ErrArg)
}
