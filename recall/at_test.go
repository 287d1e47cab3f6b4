package recall_test

import (
	"math"
	"strings"
	"testing"

	"recall/api"
	"recall/recall"
)

func wantAt(t *testing.T, what, program, trace string, n int, want api.State) {
	t.Helper()
	s, fault := recall.At(program, trace, n)
	if s != want || fault != api.OK {
		t.Fatalf("%s: At(%q, .., %d)\n = %+v, %d\nwant %+v", what, program, n, s, fault, want)
	}
}

func wantNoAt(t *testing.T, what, program, trace string, n int, want api.Errno) {
	t.Helper()
	s, fault := recall.At(program, trace, n)
	if s != (api.State{}) || fault != want {
		t.Fatalf("%s: At(%.100q, .., %d) = %+v, %d, want noughts, %d", what, program, n, s, fault, want)
	}
}

// example: the machine of the document's example.
func example(t *testing.T) *recall.Machine {
	t.Helper()
	x := made(t, "j.0", 2, 50)
	walk(t, x, 10, api.Choice{})
	walk(t, x, 1, api.Choice{Ticks: 3})
	walk(t, x, 1, api.Choice{Ticks: 4})
	return x
}

func TestP9Examples(t *testing.T) {
	x := example(t)
	wantAt(t, "the last", "j.0", x.Trace(), 12, jumping(12, 7))
	wantAt(t, "the first", "j.0", x.Trace(), 11, jumping(11, 3))
	wantNoAt(t, "ahead of it", "j.0", x.Trace(), 10, api.ErrEarly)
	wantNoAt(t, "behind it", "j.0", x.Trace(), 13, api.ErrLate)
}

func TestP9Ends(t *testing.T) {
	for _, c := range []struct {
		trace       string
		first, last int
	}{
		{atTime(0, 0), 0, 0},
		{atTime(0, 10000), 10000, 10000},
		{atTime(7, 5) + tick(8, 5), 5, 6},
		{atTime(7, 5) + atTime(8, 9), 5, 9},
		{atTime(7, 5) + tick(8, 9) + "C", 5, 10},
		{atTime(7, 5) + tick(8, 9) + tick(10, 10), 5, 10},
		{atTime(7, 9990) + tick(8, 9999), 9990, 10000},
	} {
		for n := c.first; n <= c.last; n++ {
			s, fault := recall.At("j.0", c.trace, n)
			if fault != api.OK || s.N != n {
				t.Fatalf("from %d to %d: At(%d) = %+v, %d", c.first, c.last, n, s, fault)
			}
		}
		for _, n := range []int{c.first - 1, c.first - 2, -1, -2, -1 << 32, math.MinInt} {
			wantNoAt(t, "early", "j.0", c.trace, n, api.ErrEarly)
		}
		for _, n := range []int{c.last + 1, c.last + 2, 10001, 1<<32 + c.first, math.MaxInt} {
			wantNoAt(t, "late", "j.0", c.trace, n, api.ErrLate)
		}
	}
}

// What is wrong with the program comes first, then the trace, then the time,
// then the steps.
func TestP9FirstErrorNamed(t *testing.T) {
	halting := atTime(0, 5) + tick(1, 9)
	long, none := strings.Repeat("j.0", 33), "h..x"
	for _, trace := range []string{"", "x", tick(0, 0), halting[1:], halting} {
		for _, n := range []int{math.MinInt, 0, 4, 5, 8, 10, 11, math.MaxInt} {
			wantNoAt(t, "a program too long", long, trace, n, api.ErrLong)
			wantNoAt(t, "no program", none, trace, n, api.ErrCode)
			wantNoAt(t, "no program", "h.", trace, n, api.ErrCode)
			if trace != halting {
				wantNoAt(t, "no run", "h..", trace, n, api.ErrFirst)
			}
		}
	}
	for n, want := range map[int]api.Errno{4: api.ErrEarly, 7: api.ErrWrong, 10: api.ErrWrong, 11: api.ErrLate} {
		wantNoAt(t, "a time", "h..", halting, n, want)
	}
}

// Every field of a state's frame comes back, whether a program could ever have
// brought it about or not.
func TestP9StateOfAFrame(t *testing.T) {
	list := []api.State{
		beginning(), state(nil),
		{N: 10000, Pc: 32, Regs: "\xff\xfe\xfd\xfc", Cells: "defghijklmnopqrs", Clock: 65535, Handler: 31, Back: 32, Pending: true, Halted: true},
		state(func(s *api.State) { s.Pc = 31 }),
		state(func(s *api.State) { s.Clock = 255 }),
		state(func(s *api.State) { s.Clock = 256 }),
		state(func(s *api.State) { s.Handler = 0 }),
		state(func(s *api.State) { s.Back = 0 }),
		state(func(s *api.State) { s.Pending = true }),
		state(func(s *api.State) { s.Halted = true }),
		state(func(s *api.State) { s.N = 257 }),
	}
	for _, s := range list {
		for _, program := range []string{"", "h..", "j.0", strings.Repeat("?a.", 32)} {
			wantAt(t, "a first frame", program, stateFrame(9, s), s.N, s)
			wantAt(t, "a later frame", program, atTime(8, 0)+stateFrame(9, s)+atTime(10, 10000), s.N, choose(s, s.N == 10000))
		}
	}
}

// choose: at the end of all steps the frame that stands last.
func choose(s api.State, end bool) api.State {
	if end {
		return jumping(10000, 0)
	}
	return s
}

// counting: cell 0 is one more with every third step.
const counting = "=a1+ba>b0j.1"

// marked: a state of a time whose cell 9 tells from which frame it came.
func marked(n int, mark byte) api.State {
	s := beginning()
	s.N = n
	s.Cells = with(s.Cells, 9, mark)
	return s
}

// Each time is reached from the last state that is not behind it.
func TestP9BetweenStates(t *testing.T) {
	marks := []api.State{marked(3, 1), marked(7, 2), marked(8, 3), marked(20, 4)}
	trace := ""
	for i, s := range marks {
		trace += stateFrame(i, s)
	}
	trace += tick(len(marks), 29)
	for n := 3; n <= 30; n++ {
		from := 0
		for i, s := range marks {
			if s.N <= n {
				from = i
			}
		}
		want := marks[from]
		for want.N < n {
			c := api.Choice{}
			if want.N == 29 {
				c.Ticks = 1
			}
			want = steps(t, counting, want, c)
		}
		wantAt(t, "between states", counting, trace, n, want)
	}
}

// Of states of one time the last one counts.
func TestP9StatesOfOneTime(t *testing.T) {
	c := api.Choice{Ticks: 9}
	trace := stateFrame(0, marked(5, 1)) + stateFrame(1, marked(5, 2)) + stateFrame(2, marked(5, 3)) + choiceFrame(3, 5, c) +
		stateFrame(4, marked(6, 4)) + stateFrame(5, marked(6, 5))
	wantAt(t, "two at the first time", counting, trace[:80], 5, marked(5, 2))
	wantAt(t, "three at the first time", counting, trace[:160], 5, marked(5, 3))
	wantAt(t, "and a choice", counting, trace[:160], 6, steps(t, counting, marked(5, 3), c))
	wantAt(t, "a state behind the choice", counting, trace[:200], 6, marked(6, 4))
	wantAt(t, "two behind the choice", counting, trace, 6, marked(6, 5))
	wantAt(t, "the time ahead", counting, trace, 5, marked(5, 3))
}

// A second choice of one time is not in the run.
func TestP9ChoicesOfOneTime(t *testing.T) {
	trace := atTime(0, 5) + choiceFrame(1, 5, api.Choice{Ticks: 9}) + choiceFrame(2, 5, api.Choice{Ticks: 7})
	wantAt(t, "the first counts", "j.0", trace, 6, jumping(6, 9))
	wantNoAt(t, "the second is no step", "j.0", trace, 7, api.ErrLate)
}

// reading: three steps read their inputs, `#` reads the clock, and the handler
// counts interrupts in cell 3.
const reading = "i.7?a.?b.+ab#c.>a0j.1<d3=c1+dc>d3e.."

func TestP9Choices(t *testing.T) {
	choices := map[int]api.Choice{
		1: {Input: 200}, 2: {Input: 100, Ticks: 255}, 4: {Ticks: 1}, 6: {Interrupt: true},
		7: {Input: 3}, 11: {Input: 9, Ticks: 9, Interrupt: true}, 12: {Interrupt: true}, 29: {Input: 255, Ticks: 255, Interrupt: true},
	}
	trace, number, all := stateFrame(0, beginning()), 1, []api.State{beginning()}
	for n := 0; n < 30; n++ {
		c, there := choices[n]
		if there {
			trace += choiceFrame(number, n, c)
			number++
		}
		all = append(all, steps(t, reading, all[n], c))
	}
	for n, want := range all {
		wantAt(t, "with choices", reading, trace, n, want)
	}
	// From the middle on it goes the same way.
	middle := stateFrame(0, all[7])
	number = 1
	for n := 7; n < 30; n++ {
		if c, there := choices[n]; there {
			middle += choiceFrame(number, n, c)
			number++
		}
	}
	for n := 7; n <= 30; n++ {
		wantAt(t, "from the middle on", reading, middle, n, all[n])
	}
	if all[30].Cells == all[0].Cells || all[30].Clock != 520 {
		t.Fatalf("too little happened: %+v", all[30])
	}
}

// A choice that says nothing is one of noughts; Input that is not read is none.
func TestP9ChoicesThatDoNotCount(t *testing.T) {
	trace := atTime(0, 0) + choiceFrame(1, 0, api.Choice{}) + choiceFrame(2, 1, api.Choice{Input: 9})
	wantAt(t, "a choice of noughts", "j.0", trace, 1, jumping(1, 0))
	wantAt(t, "an input that is not read", "j.0", trace, 2, jumping(2, 0))
}

// Behind the end of a program no time is known, up to the next state.
func TestP9Wrong(t *testing.T) {
	trace := atTime(0, 0) + tick(1, 4) + stateFrame(2, marked(8, 1)) + tick(3, 8) + tick(4, 12)
	program := "=a5h.."
	one := behind(beginning(), func(s *api.State) { s.Regs = with(s.Regs, 0, 5) })
	two := behind(one, func(s *api.State) { s.Halted = true })
	wantAt(t, "ahead of the end", program, trace, 1, one)
	wantAt(t, "at the end", program, trace, 2, two)
	for n := 3; n < 8; n++ {
		wantNoAt(t, "behind the end", program, trace, n, api.ErrWrong)
	}
	wantAt(t, "a state", program, trace, 8, marked(8, 1))
	s := steps(t, program, marked(8, 1), api.Choice{Ticks: 1})
	wantAt(t, "one step", program, trace, 9, s)
	wantAt(t, "two steps", program, trace, 10, steps(t, program, s, api.Choice{}))
	for n := 11; n <= 13; n++ {
		wantNoAt(t, "behind the end again", program, trace, n, api.ErrWrong)
	}
	wantNoAt(t, "behind that", program, trace, 14, api.ErrLate)
}

func TestP9HaltedState(t *testing.T) {
	s := state(func(s *api.State) { s.Halted = true })
	trace := stateFrame(0, s) + tick(1, 4) + atTime(2, 9)
	wantAt(t, "a halted state", "j.0", trace, 3, s)
	for n := 4; n < 9; n++ {
		wantNoAt(t, "behind a halted state", "j.0", trace, n, api.ErrWrong)
	}
	wantAt(t, "a state that is not", "j.0", trace, 9, jumping(9, 0))
	// No step is left out because a choice comes late.
	wantNoAt(t, "no instruction", "", atTime(0, 0)+tick(1, 9999), 2, api.ErrWrong)
	wantNoAt(t, "no instruction", "", atTime(0, 0)+tick(1, 9999), 10000, api.ErrWrong)
}

func TestP9AllTheSteps(t *testing.T) {
	trace := atTime(0, 0) + tick(1, 9999)
	wantAt(t, "ahead of the last step", "j.0", trace, 9999, jumping(9999, 0))
	wantAt(t, "behind the last step", "j.0", trace, 10000, jumping(10000, 1))
	s := beginning()
	for s.N < 10000 {
		s = steps(t, counting, s, api.Choice{Ticks: s.N / 9999})
	}
	wantAt(t, "counting", counting, trace, 10000, s)
}

// Frames of another program are followed by this one.
func TestP9AnotherProgram(t *testing.T) {
	x := made(t, reading, 64, 6)
	for i := 0; i < 40; i++ {
		wantMachineStep(t, x, api.Choice{Input: i, Ticks: i % 3, Interrupt: i%5 == 0}, api.OK)
	}
	trace := x.Trace()
	first, last, _ := recall.Span(trace)
	if last-first < 20 {
		t.Fatalf("Span = %d, %d", first, last)
	}
	differs, wrong := 0, 0
	for _, program := range []string{"j.0", "", "h..", counting, "m..?d.>d5j.0", reading} {
		for n := first; n <= last; n++ {
			want, known := wordsAt(program, wordsRun(trace), n)
			if !known {
				wrong++
				wantNoAt(t, "another program", program, trace, n, api.ErrWrong)
				continue
			}
			wantAt(t, "another program", program, trace, n, want)
			if own, _ := recall.At(reading, trace, n); own != want {
				differs++
			}
		}
	}
	if differs < 20 || wrong < 20 {
		t.Fatalf("too few of a kind: %d differ, %d cannot be", differs, wrong)
	}
}
