package recall_test

import (
	"encoding/binary"
	"encoding/hex"
	"hash/crc32"
	"math"
	"strings"
	"testing"

	"recall/api"
	"recall/recall"
)

func made(t *testing.T, program string, room, period int) *recall.Machine {
	t.Helper()
	x, fault := recall.New(program, room, period)
	if x == nil || fault != api.OK {
		t.Fatalf("New(%q, %d, %d): %d", program, room, period, fault)
	}
	return x
}

func wantMachineStep(t *testing.T, x *recall.Machine, c api.Choice, want api.Errno) {
	t.Helper()
	if fault := x.Step(c); fault != want {
		t.Fatalf("Step(%+v) at %+v = %d, want %d", c, x.State(), fault, want)
	}
}

// walk: so many steps with one choice.
func walk(t *testing.T, x *recall.Machine, n int, c api.Choice) {
	t.Helper()
	for i := 0; i < n; i++ {
		wantMachineStep(t, x, c, api.OK)
	}
}

// withSum: a frame from the bytes ahead of its sum, by the library's sum.
func withSum(b []byte) string {
	binary.LittleEndian.PutUint32(b[36:], crc32.ChecksumIEEE(b[:36]))
	return string(b)
}

func stateFrame(number int, s api.State) string {
	b := make([]byte, 40)
	b[0] = 'C'
	binary.LittleEndian.PutUint16(b[1:], uint16(number))
	binary.LittleEndian.PutUint32(b[3:], uint32(s.N))
	b[7] = byte(s.Pc)
	copy(b[8:12], s.Regs)
	copy(b[12:28], s.Cells)
	binary.LittleEndian.PutUint16(b[28:], uint16(s.Clock))
	b[30] = byte(s.Handler + 1)
	b[31] = byte(s.Back + 1)
	if s.Pending {
		b[32] |= 1
	}
	if s.Halted {
		b[32] |= 2
	}
	return withSum(b)
}

func choiceFrame(number, n int, c api.Choice) string {
	b := make([]byte, 40)
	b[0] = 'E'
	binary.LittleEndian.PutUint16(b[1:], uint16(number))
	binary.LittleEndian.PutUint32(b[3:], uint32(n))
	b[7] = byte(c.Input)
	b[8] = byte(c.Ticks)
	if c.Interrupt {
		b[9] = 1
	}
	return withSum(b)
}

// wantTrace: what differs first is told, not all of a long trace.
func wantTrace(t *testing.T, what string, x *recall.Machine, want ...string) {
	t.Helper()
	got := x.Trace()
	for i, f := range want {
		if len(got) < 40 {
			t.Fatalf("%s: %d frames and %d bytes, want %d frames", what, i, len(got), len(want))
		}
		if got[:40] != f {
			t.Fatalf("%s: frame %d is\n%x, want\n%x", what, i, got[:40], f)
		}
		got = got[40:]
	}
	if got != "" {
		t.Fatalf("%s: %d bytes more than %d frames", what, len(got), len(want))
	}
}

// jumping: the state of `j.0` at a time.
func jumping(n, clock int) api.State {
	s := beginning()
	s.N, s.Clock = n, clock
	return s
}

func TestP6NewBounds(t *testing.T) {
	rooms := []int{math.MinInt, -1 << 32, -1, 0, 1, 2, 3, 63, 64, 65, 66, 1<<32 + 2, math.MaxInt}
	periods := []int{math.MinInt, -1 << 32, -1, 0, 1, 2, 49, 50, 51, 52, 1<<32 + 1, math.MaxInt}
	for _, room := range rooms {
		for _, period := range periods {
			want := api.ErrArg
			if room >= 2 && room <= 64 && period >= 1 && period <= 50 {
				want = api.OK
			}
			for _, program := range []string{"", "j.0", strings.Repeat("=a5", 32)} {
				wantNew(t, program, room, period, want)
			}
			// What is wrong with the program comes first.
			wantNew(t, "x", room, period, api.ErrCode)
			wantNew(t, "j.", room, period, api.ErrCode)
			wantNew(t, strings.Repeat("=a5", 32)+"=", room, period, api.ErrLong)
			wantNew(t, strings.Repeat("x", 1000), room, period, api.ErrLong)
		}
	}
}

func wantNew(t *testing.T, program string, room, period int, want api.Errno) {
	t.Helper()
	x, fault := recall.New(program, room, period)
	if fault != want || (x != nil) != (want == api.OK) {
		t.Fatalf("New(%.100q, %d, %d) = a machine: %t, %d, want %d", program, room, period, x != nil, fault, want)
	}
}

func wantHex(t *testing.T, what, got, want string) {
	t.Helper()
	if hex.EncodeToString([]byte(got)) != want {
		t.Fatalf("%s:\n%x, want\n%s", what, got, want)
	}
}

// last: the last frames of a trace.
func last(t *testing.T, x *recall.Machine, frames int) string {
	t.Helper()
	trace := x.Trace()
	if len(trace) < 40*frames {
		t.Fatalf("a trace of %d bytes", len(trace))
	}
	return trace[len(trace)-40*frames:]
}

func zeros(n int) string { return strings.Repeat("00", n) }

func TestP6FirstFrame(t *testing.T) {
	for _, program := range []string{"", "j.0", "i.3j.1h..+aae..", strings.Repeat("h..", 32)} {
		for _, room := range []int{2, 3, 64} {
			for _, period := range []int{1, 50} {
				x := made(t, program, room, period)
				wantHex(t, "the first frame", x.Trace(), "43"+zeros(35)+"d94cb13d")
				if x.State() != beginning() {
					t.Fatalf("New of %q is at %+v", program, x.State())
				}
			}
		}
	}
}

// The bytes of this frame stand here one by one, made by no other code.
func TestP6FrameOfAState(t *testing.T) {
	x := made(t, "i.3j.5j.2+aaj.4=a3=b7?c.?d.>a0>b7>cf>d1j.d", 64, 50)
	for i := 0; i < 300; i++ {
		x.Save()
	}
	walk(t, x, 4, api.Choice{})
	wantMachineStep(t, x, api.Choice{Input: 254}, api.OK)
	wantMachineStep(t, x, api.Choice{Input: 129}, api.OK)
	walk(t, x, 204, api.Choice{})
	walk(t, x, 60, api.Choice{Ticks: 255})
	walk(t, x, 2, api.Choice{Interrupt: true})
	x.Save()
	wantHex(t, "a frame of a state", last(t, x, 1), "43"+"7201"+"10010000"+"04"+"0607fe81"+
		"0381"+zeros(5)+"07"+zeros(7)+"fe"+"c43b"+"04"+"0e"+"01"+"000000"+"7ae0fa6e")
}

func TestP6FrameOfAChoice(t *testing.T) {
	x := made(t, "?a.?b.j.0", 64, 50)
	walk(t, x, 300, api.Choice{})
	for i := 0; i < 250; i++ {
		x.Save()
	}
	wantMachineStep(t, x, api.Choice{Input: 171, Ticks: 205, Interrupt: true}, api.OK)
	wantMachineStep(t, x, api.Choice{Input: 172}, api.OK)
	wantHex(t, "two frames of choices", last(t, x, 2),
		"45"+"0101"+"2c010000"+"ab"+"cd01"+zeros(26)+"6ac7e9d2"+
			"45"+"0201"+"2d010000"+"ac"+"0000"+zeros(26)+"3d536e4e")
}

// Every byte of an input and of ticks, and what the choice does not say is 0.
func TestP6EveryChoice(t *testing.T) {
	for n := 1; n < 256; n++ {
		x := made(t, "?a.j.0", 64, 50)
		choices := []api.Choice{
			{Input: n}, {Ticks: n}, {Input: n, Ticks: 256 - n}, {Input: n, Interrupt: true},
			{Input: n, Ticks: n, Interrupt: true},
		}
		want := []string{stateFrame(0, beginning())}
		for i, c := range choices {
			wantMachineStep(t, x, c, api.OK)
			want = append(want, choiceFrame(i+1, i, c))
		}
		wantTrace(t, "choices", x, want...)
	}
}

// Pending and Halted have a bit each.
func TestP6FlagsOfAState(t *testing.T) {
	for _, c := range []struct {
		program   string
		interrupt bool
		want      byte
	}{{"j.0", false, 0}, {"j.0", true, 1}, {"h..", false, 2}, {"h..", true, 3}, {"", true, 3}} {
		x := made(t, c.program, 64, 50)
		wantMachineStep(t, x, api.Choice{Interrupt: c.interrupt}, api.OK)
		x.Save()
		f := last(t, x, 1)
		if f[32] != c.want || f != stateFrame(int(f[1]), x.State()) {
			t.Fatalf("%q, interrupt %t: flags %d, want %d, in %x", c.program, c.interrupt, f[32], c.want, f)
		}
	}
}

func TestP6HandlerAndBackOfAState(t *testing.T) {
	for p := range places {
		x := made(t, "i."+places[p:p+1]+strings.Repeat("=a1", 31), 64, 50)
		wantMachineStep(t, x, api.Choice{}, api.OK)
		x.Save()
		if f := last(t, x, 1); int(f[30]) != p+1 || f[31] != 0 {
			t.Fatalf("handler %d: bytes %d and %d", p, f[30], f[31])
		}
		walk(t, x, p, api.Choice{})
		wantMachineStep(t, x, api.Choice{Interrupt: true}, api.OK)
		x.Save()
		if f := last(t, x, 1); int(f[7]) != p+1 || int(f[30]) != p+1 || int(f[31]) != p+2 {
			t.Fatalf("interrupted at %d: Pc %d, bytes %d and %d", p+1, f[7], f[30], f[31])
		}
	}
}

// ready: a machine that has done these steps, and its trace.
func ready(t *testing.T, program string, choices ...api.Choice) (*recall.Machine, string) {
	t.Helper()
	x := made(t, program, 64, 50)
	for _, c := range choices {
		wantMachineStep(t, x, c, api.OK)
	}
	return x, x.Trace()
}

func TestP6WhichChoicesCount(t *testing.T) {
	none, hit := api.Choice{}, api.Choice{Interrupt: true}
	for _, c := range []struct {
		what    string
		program string
		ahead   []api.Choice
		choice  api.Choice
		counts  bool
	}{
		{"noughts", "?a.", nil, none, false},
		{"an input that is read", "?a.", nil, api.Choice{Input: 1}, true},
		{"the greatest input", "?d.", nil, api.Choice{Input: 255}, true},
		{"an input where there is no program", "", nil, api.Choice{Input: 1}, false},
		{"an input behind the program", "?a.", []api.Choice{none}, api.Choice{Input: 1}, false},
		{"an input ahead of the one that reads", "=a1?a.", nil, api.Choice{Input: 1}, false},
		{"an input behind the one that reads", "?a.=a1", []api.Choice{none}, api.Choice{Input: 1}, false},
		{"a tick", "j.0", nil, api.Choice{Ticks: 1}, true},
		{"the most ticks", "", nil, api.Choice{Ticks: 255}, true},
		{"a tick that is the clock read", "#a.", nil, api.Choice{Ticks: 1}, true},
		{"an interrupt that waits", "j.0", nil, hit, true},
		{"an interrupt again", "j.0", []api.Choice{hit}, hit, true},
		{"an interrupt at the end", "", nil, hit, true},
		{"an interrupt that is handled", "i.1e..", []api.Choice{none}, hit, true},
		{"an interrupt within the handler", "i.1=a1e..", []api.Choice{none, hit}, hit, true},
		{"one that waited leads to what reads", "i.3=a1h..?b.", []api.Choice{hit}, api.Choice{Input: 1}, true},
		{"one that waited leads away", "i.3?a.h..=b1", []api.Choice{hit}, api.Choice{Input: 1}, false},
		{"nothing comes, one that waited is handled", "i.3?a.h..=b1", []api.Choice{hit}, none, false},
		{"one that waits within the handler", "i.1?a.j.1", []api.Choice{none, hit, hit}, api.Choice{Input: 1}, true},
	} {
		x, trace := ready(t, c.program, c.ahead...)
		n := x.State().N
		wantMachineStep(t, x, c.choice, api.OK)
		want := ""
		if c.counts {
			want = choiceFrame(len(trace)/40, n, c.choice)
		}
		if x.Trace() != trace+want {
			t.Errorf("%s: %q: counts: want %t; trace %x behind %x", c.what, c.program, c.counts, x.Trace(), trace)
		}
	}
	// No instruction but one reads.
	for _, f := range forms {
		x := made(t, f.first+f.second[:1]+f.third[:1], 64, 50)
		wantMachineStep(t, x, api.Choice{Input: 7}, api.OK)
		if read := len(x.Trace()) == 80; read != (f.first == "?") {
			t.Errorf("an input at %q counts: %t", f.first, read)
		}
	}
}

func TestP6Period(t *testing.T) {
	for period := 1; period <= 50; period++ {
		x := made(t, "j.0", 64, period)
		want := []string{stateFrame(0, jumping(0, 0))}
		for n := 1; n <= 60; n++ {
			wantMachineStep(t, x, api.Choice{}, api.OK)
			if n%period == 0 {
				want = append(want, stateFrame(len(want), jumping(n, 0)))
			}
			wantTrace(t, "a period", x, want...)
		}
	}
}

// Whatever wrote the last state, the period begins there.
func TestP6PeriodFromTheLastState(t *testing.T) {
	x := made(t, "j.0", 64, 5)
	walk(t, x, 3, api.Choice{})
	x.Save()
	walk(t, x, 4, api.Choice{})
	wantTrace(t, "4 behind a Save", x, stateFrame(0, jumping(0, 0)), stateFrame(1, jumping(3, 0)))
	walk(t, x, 1, api.Choice{})
	wantTrace(t, "5 behind a Save", x,
		stateFrame(0, jumping(0, 0)), stateFrame(1, jumping(3, 0)), stateFrame(2, jumping(8, 0)))

	tick := api.Choice{Ticks: 1}
	x = made(t, "j.0", 2, 5)
	walk(t, x, 1, tick)
	walk(t, x, 2, api.Choice{})
	walk(t, x, 1, tick)
	brought := []string{stateFrame(2, jumping(3, 1)), choiceFrame(3, 3, tick)}
	wantTrace(t, "a state that a choice brought", x, brought...)
	walk(t, x, 3, api.Choice{})
	wantTrace(t, "4 behind it", x, brought...)
	walk(t, x, 1, api.Choice{})
	wantTrace(t, "5 behind it", x, stateFrame(4, jumping(8, 2)))

	// That state is one step back: with a period of 1 it is due again at once.
	x = made(t, "j.0", 2, 2)
	walk(t, x, 1, tick)
	walk(t, x, 1, tick)
	wantTrace(t, "a period of 2", x, stateFrame(2, jumping(1, 1)), choiceFrame(3, 1, tick))
	x = made(t, "j.0", 2, 1)
	walk(t, x, 1, tick)
	wantTrace(t, "a period of 1", x, stateFrame(2, jumping(1, 1)))
	walk(t, x, 1, tick)
	wantTrace(t, "a period of 1", x, stateFrame(4, jumping(2, 2)))
}

// The choice stands ahead of the state that its step leads to.
func TestP6ChoiceAheadOfState(t *testing.T) {
	c := api.Choice{Ticks: 9}
	x := made(t, "j.0", 64, 2)
	walk(t, x, 1, api.Choice{})
	walk(t, x, 1, c)
	wantTrace(t, "a choice and a state", x,
		stateFrame(0, jumping(0, 0)), choiceFrame(1, 1, c), stateFrame(2, jumping(2, 9)))
}

func TestP6Save(t *testing.T) {
	x := made(t, "=a5h..", 64, 50)
	s := beginning()
	want := []string{stateFrame(0, s)}
	saved := func() {
		t.Helper()
		x.Save()
		want = append(want, stateFrame(len(want), s))
		wantTrace(t, "Save", x, want...)
		if x.State() != s {
			t.Fatalf("Save leaves %+v, want %+v", x.State(), s)
		}
	}
	saved()
	saved()
	walk(t, x, 1, api.Choice{})
	s.N, s.Pc, s.Regs = 1, 1, "\x05\x00\x00\x00"
	saved()
	walk(t, x, 1, api.Choice{})
	s.N, s.Pc, s.Halted = 2, 2, true
	saved()
	saved()
}

// refuse: all that is no choice, and, if it stands still, any choice.
func refuse(t *testing.T, x *recall.Machine, still bool) {
	t.Helper()
	s, trace := x.State(), x.Trace()
	for _, c := range noChoices() {
		wantMachineStep(t, x, c, api.ErrArg)
	}
	if still {
		wantMachineStep(t, x, api.Choice{}, api.ErrHalt)
		wantMachineStep(t, x, api.Choice{Input: 255, Ticks: 255, Interrupt: true}, api.ErrHalt)
	}
	if x.State() != s || x.Trace() != trace {
		t.Fatalf("a refused step leaves %+v, %d bytes, want %+v, %d bytes", x.State(), len(x.Trace()), s, len(trace))
	}
}

// A machine with refusals between its steps goes on as its twin without.
func TestP6RefusedStep(t *testing.T) {
	const program = "?a.+ba>b0zc0"
	for room := 2; room <= 5; room++ {
		x, twin := made(t, program, room, 3), made(t, program, room, 3)
		for i := 0; i < 40; i++ {
			refuse(t, x, false)
			c := api.Choice{Input: i, Ticks: i % 3 / 2, Interrupt: i%7 == 0}
			wantMachineStep(t, x, c, api.OK)
			wantMachineStep(t, twin, c, api.OK)
			if x.State() != twin.State() || x.Trace() != twin.Trace() {
				t.Fatalf("room %d, behind %d steps: %+v, want %+v", room, i+1, x.State(), twin.State())
			}
		}
	}
}

func TestP6NoStepBehindTheEnd(t *testing.T) {
	for _, program := range []string{"", "h..", "?a.", "i.0"} {
		x := made(t, program, 2, 50)
		for !x.State().Halted {
			wantMachineStep(t, x, api.Choice{Ticks: 1}, api.OK)
		}
		refuse(t, x, true)
		x.Save()
		refuse(t, x, true)
	}
	x := made(t, "j.0", 64, 50)
	walk(t, x, api.MaxSteps, api.Choice{})
	if x.State() != jumping(10000, 0) {
		t.Fatalf("behind all steps %+v", x.State())
	}
	refuse(t, x, true)
	// 200 states behind the first: 64 are kept.
	if f := x.Trace(); len(f) != 64*40 || f[:40] != stateFrame(137, jumping(6850, 0)) || last(t, x, 1) != stateFrame(200, jumping(10000, 0)) {
		t.Fatalf("behind all steps %d bytes, the first frame %.40x", len(f), f)
	}
	x.Save()
	if last(t, x, 1) != stateFrame(201, jumping(10000, 0)) {
		t.Fatalf("Save behind all steps: %x", last(t, x, 1))
	}
}
