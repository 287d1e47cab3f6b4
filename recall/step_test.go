package recall_test

import (
	"math"
	"strings"
	"testing"

	"recall/api"
	"recall/recall"
)

// state: one that differs from that at the beginning in every number, so that
// what a step may not touch is seen; the cells are 100 to 115.
func state(change func(s *api.State)) api.State {
	s := api.State{N: 3, Pc: 0, Regs: "\x01\x02\x03\x04", Cells: "defghijklmnopqrs", Clock: 1000, Handler: -1, Back: -1}
	if change != nil {
		change(&s)
	}
	return s
}

func beginning() api.State {
	return api.State{Regs: "\x00\x00\x00\x00", Cells: strings.Repeat("\x00", 16), Handler: -1, Back: -1}
}

// with: the text with another byte at a place.
func with(text string, at int, b byte) string {
	return text[:at] + string([]byte{b}) + text[at+1:]
}

func wantStep(t *testing.T, program string, s api.State, c api.Choice, want api.State) {
	t.Helper()
	got, fault := recall.Step(program, s, c)
	if fault != api.OK || got != want {
		t.Fatalf("Step(%q, %+v, %+v)\n = %+v, %d\nwant %+v", program, s, c, got, fault, want)
	}
}

func wantFault(t *testing.T, program string, s api.State, c api.Choice, want api.Errno) {
	t.Helper()
	got, fault := recall.Step(program, s, c)
	if fault != want || got != (api.State{}) {
		t.Fatalf("Step(%.100q, %+v, %+v) = %+v, %d, want noughts, %d", program, s, c, got, fault, want)
	}
}

// behind: the state with N and Pc one more, and changed.
func behind(s api.State, change func(s *api.State)) api.State {
	s.N++
	s.Pc++
	if change != nil {
		change(&s)
	}
	return s
}

func TestP4SetRegister(t *testing.T) {
	for r := range registers {
		for d := range digits {
			s := state(nil)
			wantStep(t, "="+registers[r:r+1]+digits[d:d+1], s, api.Choice{}, behind(s, func(s *api.State) {
				s.Regs = with(s.Regs, r, byte(d))
			}))
		}
	}
}

func TestP4AddAndTakeAway(t *testing.T) {
	for a := 0; a < 256; a++ {
		for b := 0; b < 256; b++ {
			s := state(func(s *api.State) { s.Regs = string([]byte{9, byte(a), 8, byte(b)}) })
			wantStep(t, "+bd", s, api.Choice{}, behind(s, func(s *api.State) {
				s.Regs = string([]byte{9, byte(a + b), 8, byte(b)})
			}))
			wantStep(t, "-db", s, api.Choice{}, behind(s, func(s *api.State) {
				s.Regs = string([]byte{9, byte(a), 8, byte(b - a)})
			}))
		}
	}
	s := state(func(s *api.State) { s.Regs = "\x01\x02\x81\x04" })
	wantStep(t, "+cc", s, api.Choice{}, behind(s, func(s *api.State) { s.Regs = "\x01\x02\x02\x04" }))
	wantStep(t, "-cc", s, api.Choice{}, behind(s, func(s *api.State) { s.Regs = "\x01\x02\x00\x04" }))
}

func TestP4CellOfANumber(t *testing.T) {
	for r := range registers {
		for d := range digits {
			s := state(nil)
			names := registers[r:r+1] + digits[d:d+1]
			wantStep(t, "<"+names, s, api.Choice{}, behind(s, func(s *api.State) {
				s.Regs = with(s.Regs, r, byte(100+d))
			}))
			wantStep(t, ">"+names, s, api.Choice{}, behind(s, func(s *api.State) {
				s.Cells = with(s.Cells, d, byte(r+1))
			}))
		}
	}
}

func TestP4CellOfARegister(t *testing.T) {
	for n := 0; n < 256; n++ {
		s := state(func(s *api.State) { s.Regs = with(s.Regs, 2, byte(n)) })
		wantStep(t, "(ac", s, api.Choice{}, behind(s, func(s *api.State) {
			s.Regs = with(s.Regs, 0, byte(100+n%16))
		}))
		wantStep(t, "(cc", s, api.Choice{}, behind(s, func(s *api.State) {
			s.Regs = with(s.Regs, 2, byte(100+n%16))
		}))
		wantStep(t, ")dc", s, api.Choice{}, behind(s, func(s *api.State) {
			s.Cells = with(s.Cells, n%16, 4)
		}))
		wantStep(t, ")cc", s, api.Choice{}, behind(s, func(s *api.State) {
			s.Cells = with(s.Cells, n%16, byte(n))
		}))
	}
}

func TestP4Input(t *testing.T) {
	for n := 0; n < 256; n++ {
		s := state(nil)
		wantStep(t, "?b.", s, api.Choice{Input: n}, behind(s, func(s *api.State) {
			s.Regs = with(s.Regs, 1, byte(n))
		}))
		// An input that nobody asks for changes nothing.
		wantStep(t, "m..", s, api.Choice{Input: n}, behind(s, nil))
	}
}

// The clock moves ahead of the instruction.
func TestP4Clock(t *testing.T) {
	for _, c := range []struct{ clock, ticks, want int }{
		{0, 0, 0}, {0, 255, 255}, {255, 1, 256}, {1000, 24, 1024}, {511, 255, 766},
		{65535, 0, 65535}, {65535, 1, 0}, {65535, 255, 254}, {65280, 255, 65535}, {65281, 255, 0},
	} {
		s := state(func(s *api.State) { s.Clock = c.clock })
		wantStep(t, "#d.", s, api.Choice{Ticks: c.ticks}, behind(s, func(s *api.State) {
			s.Clock = c.want
			s.Regs = with(s.Regs, 3, byte(c.want%256))
		}))
		wantStep(t, "m..", s, api.Choice{Ticks: c.ticks}, behind(s, func(s *api.State) { s.Clock = c.want }))
	}
}

func TestP4Places(t *testing.T) {
	for p := range places {
		place := places[p : p+1]
		s := state(nil)
		wantStep(t, "j."+place, s, api.Choice{}, behind(s, func(s *api.State) { s.Pc = p }))
		wantStep(t, "zb"+place, s, api.Choice{}, behind(s, nil))
		wantStep(t, "i."+place, s, api.Choice{}, behind(s, func(s *api.State) { s.Handler = p }))
		nought := state(func(s *api.State) { s.Regs = "\x01\x00\x03\x04" })
		wantStep(t, "zb"+place, nought, api.Choice{}, behind(nought, func(s *api.State) { s.Pc = p }))
		handled := state(func(s *api.State) { s.Handler = p })
		wantStep(t, "m..", handled, api.Choice{}, behind(handled, func(s *api.State) { s.Handler = -1 }))
	}
	for n := 1; n < 256; n++ {
		s := state(func(s *api.State) { s.Regs = with(s.Regs, 1, byte(n)) })
		wantStep(t, "zbv", s, api.Choice{}, behind(s, nil))
	}
	s := state(nil)
	wantStep(t, "m..", s, api.Choice{}, behind(s, nil))
}

func TestP4EndOfTheHandler(t *testing.T) {
	s := state(func(s *api.State) { s.Handler = 5 })
	wantStep(t, "e..", s, api.Choice{}, behind(s, nil))
	for back := 0; back <= 32; back++ {
		s := state(func(s *api.State) { s.Handler, s.Back = 5, back })
		wantStep(t, "e..", s, api.Choice{}, behind(s, func(s *api.State) { s.Pc, s.Back = back, -1 }))
		// Being in the handler does not hang on there being one still.
		s.Handler = -1
		wantStep(t, "e..", s, api.Choice{}, behind(s, func(s *api.State) { s.Pc, s.Back = back, -1 }))
	}
}

func TestP4Halt(t *testing.T) {
	s := state(nil)
	wantStep(t, "h..m..", s, api.Choice{}, behind(s, func(s *api.State) { s.Halted = true }))
	full := strings.Repeat("m..", 31) + "h.."
	last := state(func(s *api.State) { s.Pc = 31 })
	wantStep(t, full, last, api.Choice{}, behind(last, func(s *api.State) { s.Halted = true }))
	// Behind the program's end it halts, and Pc stays.
	for n := 0; n <= 32; n++ {
		for pc := 0; pc <= 32; pc++ {
			s := state(func(s *api.State) { s.Pc = pc })
			want := behind(s, nil)
			if pc >= n {
				want.Pc, want.Halted = pc, true
			}
			wantStep(t, strings.Repeat("m..", n), s, api.Choice{}, want)
		}
	}
}

// What comes from outside comes even if the step finds no instruction.
func TestP4OutsideAtTheEnd(t *testing.T) {
	s := state(func(s *api.State) { s.Pc, s.Handler = 32, 31 })
	wantStep(t, "m..", s, api.Choice{Input: 9, Ticks: 7, Interrupt: true}, behind(s, func(s *api.State) {
		s.Clock, s.Back, s.Pc, s.Halted = 1007, 32, 31, true
	}))
	s.Handler = -1
	wantStep(t, "m..", s, api.Choice{Interrupt: true}, behind(s, func(s *api.State) {
		s.Pending, s.Pc, s.Halted = true, 32, true
	}))
}

func TestP4Interrupt(t *testing.T) {
	const program = "m..=a9?b.#c.e.."
	hit := api.Choice{Input: 77, Ticks: 1, Interrupt: true}
	for handler := -1; handler <= 3; handler++ {
		for _, back := range []int{-1, 0, 1, 32} {
			for _, pending := range []bool{false, true} {
				for _, interrupt := range []bool{false, true} {
					s := state(func(s *api.State) { s.Handler, s.Back, s.Pending, s.Pc = handler, back, pending, 1 })
					c := hit
					c.Interrupt = interrupt
					wantStep(t, program, s, c, interrupted(s, c))
				}
			}
		}
	}
}

// interrupted: what the program of TestP4Interrupt makes of a state at Pc 1.
func interrupted(s api.State, c api.Choice) api.State {
	s.N++
	s.Clock++
	waits := s.Pending || c.Interrupt
	s.Pending = waits
	at := 1
	if waits && s.Handler != -1 && s.Back == -1 {
		s.Pending, s.Back, at = false, 1, s.Handler
	}
	s.Pc = at + 1
	switch at {
	case 0:
		s.Handler = -1
	case 1:
		s.Regs = with(s.Regs, 0, 9)
	case 2:
		s.Regs = with(s.Regs, 1, 77)
	case 3:
		s.Regs = with(s.Regs, 2, 1001%256)
	}
	return s
}

// A handler that this very step names is too late for this step's interrupt;
// one that ends leaves the next to the step behind.
func TestP4InterruptOneStepLater(t *testing.T) {
	s := state(nil)
	hit := api.Choice{Interrupt: true}
	first := behind(s, func(s *api.State) { s.Handler, s.Pending = 2, true })
	wantStep(t, "i.2m..=a9", s, hit, first)
	wantStep(t, "i.2m..=a9", first, api.Choice{}, behind(first, func(s *api.State) {
		s.Pending, s.Back, s.Pc, s.Regs = false, 1, 3, with(s.Regs, 0, 9)
	}))
	in := state(func(s *api.State) { s.Handler, s.Back = 0, 1 })
	out := behind(in, func(s *api.State) { s.Pc, s.Back, s.Pending = 1, -1, true })
	wantStep(t, "e..m..", in, hit, out)
	wantStep(t, "e..m..", out, api.Choice{}, behind(out, func(s *api.State) { s.Pc, s.Back, s.Pending = 1, -1, false }))
}

func steps(t *testing.T, program string, s api.State, choices ...api.Choice) api.State {
	t.Helper()
	for _, c := range choices {
		next, fault := recall.Step(program, s, c)
		if fault != api.OK {
			t.Fatalf("Step(%q, %+v, %+v): %d", program, s, c, fault)
		}
		s = next
	}
	return s
}

func TestP4Examples(t *testing.T) {
	none := api.Choice{}
	const adds = "=a5=b7+ab>a3"
	want := beginning()
	want.N, want.Pc, want.Regs, want.Cells = 4, 4, "\x0c\x07\x00\x00", with(want.Cells, 3, 12)
	s := steps(t, adds, beginning(), none, none, none, none)
	if s != want {
		t.Errorf("behind 4 steps %+v, want %+v", s, want)
	}
	want.N, want.Halted = 5, true
	wantStep(t, adds, s, none, want)
	wantFault(t, adds, want, none, api.ErrHalt)

	const handles = "i.3j.1h..+aae.."
	want = beginning()
	want.N, want.Pc, want.Handler = 2, 1, 3
	s = steps(t, handles, beginning(), none, none)
	if s != want {
		t.Errorf("behind 2 steps %+v, want %+v", s, want)
	}
	want.N, want.Pc, want.Back = 3, 4, 1
	wantStep(t, handles, s, api.Choice{Interrupt: true}, want)
	s = want
	want.N, want.Pc, want.Back = 4, 1, -1
	wantStep(t, handles, s, none, want)
}

func TestP4AllTheSteps(t *testing.T) {
	s := beginning()
	for n := 0; n < api.MaxSteps; n++ {
		s = steps(t, "j.0", s, api.Choice{Ticks: 255})
	}
	want := beginning()
	want.N, want.Clock = 10000, 10000*255%65536
	if s != want {
		t.Errorf("behind all steps %+v, want %+v", s, want)
	}
	wantFault(t, "j.0", s, api.Choice{}, api.ErrHalt)
}

// noStates: each is out of one bound alone, by one and by far.
func noStates() []api.State {
	list := []api.State{{}}
	for _, n := range []int{math.MinInt, -1, 10001, 1 << 32, math.MaxInt} {
		list = append(list, state(func(s *api.State) { s.N = n }))
	}
	for _, n := range []int{math.MinInt, -1, 33, 1 << 32, math.MaxInt} {
		list = append(list, state(func(s *api.State) { s.Pc = n }))
	}
	for _, n := range []int{math.MinInt, -1, 65536, 1 << 32, math.MaxInt} {
		list = append(list, state(func(s *api.State) { s.Clock = n }))
	}
	for _, n := range []int{math.MinInt, -2, 32, 1<<32 - 1, math.MaxInt} {
		list = append(list, state(func(s *api.State) { s.Handler = n }))
	}
	for _, n := range []int{math.MinInt, -2, 33, 1<<32 - 1, math.MaxInt} {
		list = append(list, state(func(s *api.State) { s.Back = n }))
	}
	for _, n := range []int{0, 3, 5, 16, 1000000} {
		list = append(list, state(func(s *api.State) { s.Regs = strings.Repeat("r", n) }))
	}
	for _, n := range []int{0, 4, 15, 17, 1000000} {
		list = append(list, state(func(s *api.State) { s.Cells = strings.Repeat("c", n) }))
	}
	return list
}

func noChoices() []api.Choice {
	list := []api.Choice{}
	for _, n := range []int{math.MinInt, -1, 256, 1 << 32, math.MaxInt} {
		list = append(list, api.Choice{Input: n}, api.Choice{Ticks: n, Interrupt: true})
	}
	return list
}

func TestP4NoState(t *testing.T) {
	for _, s := range noStates() {
		wantFault(t, "", s, api.Choice{}, api.ErrState)
		wantFault(t, "j.0", s, api.Choice{Input: 255, Ticks: 255, Interrupt: true}, api.ErrState)
	}
}

func TestP4NoChoice(t *testing.T) {
	for _, c := range noChoices() {
		wantFault(t, "", state(nil), c, api.ErrArg)
		wantFault(t, "?a.", beginning(), c, api.ErrArg)
	}
}

// The last that the bounds let in.
func TestP4Bounds(t *testing.T) {
	s := state(func(s *api.State) { s.N, s.Pc, s.Clock, s.Handler, s.Back = 9999, 32, 65535, 31, 32 })
	wantStep(t, "m..", s, api.Choice{Input: 255, Ticks: 255}, behind(s, func(s *api.State) {
		s.Pc, s.Clock, s.Halted = 32, 254, true
	}))
	low := state(func(s *api.State) { s.N, s.Pc, s.Clock, s.Handler, s.Back = 0, 0, 0, 0, 0 })
	wantStep(t, "j.0", low, api.Choice{}, behind(low, func(s *api.State) { s.Pc = 0 }))
	wantStep(t, "j.0", beginning(), api.Choice{}, behind(beginning(), func(s *api.State) { s.Pc = 0 }))
	bytes := state(func(s *api.State) { s.Regs, s.Cells = "\xff\x80\x7f\xfe", strings.Repeat("\xff", 16) })
	wantStep(t, "m..", bytes, api.Choice{}, behind(bytes, nil))
}

func TestP4Halted(t *testing.T) {
	halted := state(func(s *api.State) { s.Halted = true })
	wantFault(t, "", halted, api.Choice{}, api.ErrHalt)
	wantFault(t, "m..", halted, api.Choice{Interrupt: true}, api.ErrHalt)
	end := state(func(s *api.State) { s.N = 10000 })
	wantFault(t, "m..", end, api.Choice{}, api.ErrHalt)
	end.Halted = true
	wantFault(t, "m..", end, api.Choice{}, api.ErrHalt)
}

func TestP1FirstErrorNamed(t *testing.T) {
	halted := state(func(s *api.State) { s.Halted = true })
	end := state(func(s *api.State) { s.N = 10000 })
	states := append(noStates(), halted, end, state(nil))
	choices := append(noChoices(), api.Choice{})
	for _, s := range states {
		for _, c := range choices {
			wantFault(t, "x", s, c, api.ErrCode)
			wantFault(t, "m.", s, c, api.ErrCode)
			wantFault(t, strings.Repeat("x", 97), s, c, api.ErrLong)
		}
	}
	for _, c := range noChoices() {
		for _, s := range noStates() {
			s.Halted = true
			wantFault(t, "m..", s, c, api.ErrState)
		}
		wantFault(t, "m..", halted, c, api.ErrArg)
		wantFault(t, "m..", end, c, api.ErrArg)
	}
}

// Asked again, in another order, everything is answered as before.
func TestP2ArgumentsAlone(t *testing.T) {
	programs := []string{"", "?a.", "+ab", ">a3", "i.1", "h..", "x", "=a", strings.Repeat("h..", 33)}
	choices := []api.Choice{{}, {Input: 9, Ticks: 3, Interrupt: true}, {Input: -1}}
	type answer struct {
		s            api.State
		fault, wrong api.Errno
		at, sum      int
	}
	ask := func(i int) answer {
		program, c := programs[i%len(programs)], choices[i/len(programs)]
		a := answer{}
		a.s, a.fault = recall.Step(program, state(nil), c)
		a.wrong, a.at = recall.Check(program)
		a.sum = recall.Sum(program)
		return a
	}
	total := len(programs) * len(choices)
	first := []answer{}
	for i := 0; i < total; i++ {
		first = append(first, ask(i))
	}
	for i := total - 1; i >= 0; i-- {
		if again := ask(i); again != first[i] {
			t.Errorf("asked %d: %+v, then %+v", i, first[i], again)
		}
	}
}
