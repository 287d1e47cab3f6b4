package recall_test

import (
	"math/rand"
	"strings"
	"testing"

	"recall/api"
	"recall/recall"
)

func TestP7Example(t *testing.T) {
	x := made(t, "j.0", 2, 50)
	wantTrace(t, "New", x, stateFrame(0, jumping(0, 0)))
	walk(t, x, 10, api.Choice{})
	wantTrace(t, "ten steps of noughts", x, stateFrame(0, jumping(0, 0)))
	three, four := api.Choice{Ticks: 3}, api.Choice{Ticks: 4}
	walk(t, x, 1, three)
	wantTrace(t, "a choice", x, stateFrame(0, jumping(0, 0)), choiceFrame(1, 10, three))
	walk(t, x, 1, four)
	wantTrace(t, "one more", x, stateFrame(2, jumping(11, 3)), choiceFrame(3, 11, four))
}

// With two states or more, those ahead of the second go, be it what it may
// that is written.
func TestP7TwoStatesKept(t *testing.T) {
	c := api.Choice{Ticks: 1}
	full := func() *recall.Machine {
		x := made(t, "j.0", 6, 50)
		walk(t, x, 2, c)
		x.Save()
		walk(t, x, 1, c)
		x.Save()
		wantTrace(t, "full", x,
			stateFrame(0, jumping(0, 0)), choiceFrame(1, 0, c), choiceFrame(2, 1, c),
			stateFrame(3, jumping(2, 2)), choiceFrame(4, 2, c), stateFrame(5, jumping(3, 3)))
		return x
	}
	x := full()
	walk(t, x, 1, c)
	wantTrace(t, "a choice", x,
		stateFrame(3, jumping(2, 2)), choiceFrame(4, 2, c), stateFrame(5, jumping(3, 3)), choiceFrame(6, 3, c))
	walk(t, x, 3, c)
	wantTrace(t, "full again, and a choice", x,
		stateFrame(5, jumping(3, 3)), choiceFrame(6, 3, c), choiceFrame(7, 4, c), choiceFrame(8, 5, c), choiceFrame(9, 6, c))
	x = full()
	x.Save()
	wantTrace(t, "a state", x,
		stateFrame(3, jumping(2, 2)), choiceFrame(4, 2, c), stateFrame(5, jumping(3, 3)), stateFrame(6, jumping(3, 3)))
	for i := 7; i <= 12; i++ {
		x.Save()
	}
	wantTrace(t, "states alone", x,
		stateFrame(7, jumping(3, 3)), stateFrame(8, jumping(3, 3)), stateFrame(9, jumping(3, 3)),
		stateFrame(10, jumping(3, 3)), stateFrame(11, jumping(3, 3)), stateFrame(12, jumping(3, 3)))
}

// ticking: a machine of `j.0`, a tick at each of its steps.
func ticking(t *testing.T, room, period, steps int) *recall.Machine {
	t.Helper()
	x := made(t, "j.0", room, period)
	walk(t, x, steps, api.Choice{Ticks: 1})
	return x
}

// ticks: the frames of choices of one tick, from a number and a time on.
func ticks(number, n, count int) []string {
	list := []string{}
	for i := 0; i < count; i++ {
		list = append(list, choiceFrame(number+i, n+i, api.Choice{Ticks: 1}))
	}
	return list
}

func TestP7OneStateKept(t *testing.T) {
	// From 51 on a state is due ahead of the room's end.
	for room := 2; room <= 50; room++ {
		x := ticking(t, room, 50, room-1)
		full := append([]string{stateFrame(0, jumping(0, 0))}, ticks(1, 0, room-1)...)
		wantTrace(t, "full", x, full...)
		x.Save()
		wantTrace(t, "a state", x, stateFrame(room, jumping(room-1, room-1)))
		x.Save()
		wantTrace(t, "one more", x, stateFrame(room, jumping(room-1, room-1)), stateFrame(room+1, jumping(room-1, room-1)))
	}
	for room := 2; room < 50; room++ {
		x := ticking(t, room, 50, room)
		wantTrace(t, "a choice", x, stateFrame(room, jumping(room-1, room-1)), ticks(room+1, room-1, 1)[0])
	}
	// At the 50th step a choice and a state are written.
	x := ticking(t, 50, 50, 50)
	wantTrace(t, "room 50", x, stateFrame(50, jumping(49, 49)), ticks(51, 49, 1)[0])
	x = ticking(t, 51, 50, 50)
	wantTrace(t, "room 51", x, stateFrame(51, jumping(50, 50)))
}

func TestP7RoomOf64(t *testing.T) {
	x := ticking(t, 64, 50, 62)
	want := append([]string{stateFrame(0, jumping(0, 0))}, ticks(1, 0, 50)...)
	want = append(want, stateFrame(51, jumping(50, 50)))
	want = append(want, ticks(52, 50, 12)...)
	wantTrace(t, "64 frames", x, want...)
	walk(t, x, 1, api.Choice{Ticks: 1})
	want = append(want[51:], ticks(64, 62, 1)...)
	wantTrace(t, "one more", x, want...)

	x = made(t, "j.0", 64, 1)
	walk(t, x, 63, api.Choice{})
	if f := x.Trace(); len(f) != 64*40 || f[:40] != stateFrame(0, jumping(0, 0)) {
		t.Fatalf("64 states: %d bytes, first %.40x", len(f), f)
	}
	walk(t, x, 1, api.Choice{})
	if f := x.Trace(); len(f) != 64*40 || f[:40] != stateFrame(1, jumping(1, 0)) || f[63*40:] != stateFrame(64, jumping(64, 0)) {
		t.Fatalf("65 states: %d bytes, first %.40x", len(f), f)
	}
}

// Behind 65535 comes 0, wherever that falls.
func TestP7NumbersGoOn(t *testing.T) {
	x := made(t, "j.0", 3, 50)
	for i := 1; i <= 65534; i++ {
		x.Save()
	}
	s := jumping(0, 0)
	wantTrace(t, "65535 frames", x, stateFrame(65532, s), stateFrame(65533, s), stateFrame(65534, s))
	x.Save()
	x.Save()
	wantTrace(t, "65537 frames", x, stateFrame(65534, s), stateFrame(65535, s), stateFrame(0, s))
	c := api.Choice{Ticks: 2}
	walk(t, x, 1, c)
	wantTrace(t, "a choice", x, stateFrame(65535, s), stateFrame(0, s), choiceFrame(1, 0, c))
	for i := 2; i <= 131073; i++ {
		x.Save()
	}
	s = jumping(1, 2)
	wantTrace(t, "round again", x, stateFrame(65535, s), stateFrame(0, s), stateFrame(1, s))

	// A state that a choice brings takes the last number, the choice the first.
	x = made(t, "j.0", 2, 50)
	for i := 1; i <= 65533; i++ {
		x.Save()
	}
	walk(t, x, 1, c)
	wantTrace(t, "65534 is a choice", x, stateFrame(65533, jumping(0, 0)), choiceFrame(65534, 0, c))
	walk(t, x, 1, c)
	wantTrace(t, "65535 is brought", x, stateFrame(65535, jumping(1, 2)), choiceFrame(0, 1, c))
}

// model: the words of P6 and P7, one by one, on a list of frames.
type model struct {
	program              string
	room, period         int
	number, lastN        int
	s                    api.State
	frames               []string
	twoStates, all, none int
}

func (m *model) statesKept() (count, second int) {
	for i, f := range m.frames {
		if f[0] == 'C' {
			count++
			if count == 2 {
				second = i
			}
		}
	}
	return count, second
}

// makeRoom: whether all frames went.
func (m *model) makeRoom() bool {
	if len(m.frames) < m.room {
		m.none++
		return false
	}
	if count, second := m.statesKept(); count >= 2 {
		m.frames = m.frames[second:]
		m.twoStates++
		return false
	}
	m.frames = nil
	m.all++
	return true
}

func (m *model) writeState(s api.State) {
	m.makeRoom()
	m.frames = append(m.frames, stateFrame(m.number, s))
	m.number++
	m.lastN = s.N
}

func (m *model) writeChoice(ahead api.State, c api.Choice) {
	if m.makeRoom() {
		m.writeState(ahead)
	}
	m.frames = append(m.frames, choiceFrame(m.number, ahead.N, c))
	m.number++
}

// counts: a step that reads its input is one whose end hangs on it.
func (m *model) counts(c api.Choice) bool {
	low, high := c, c
	low.Input, high.Input = 0, 255
	a, _ := recall.Step(m.program, m.s, low)
	b, _ := recall.Step(m.program, m.s, high)
	return c.Interrupt || c.Ticks != 0 || c.Input != 0 && a != b
}

func (m *model) step(c api.Choice) api.Errno {
	s, fault := recall.Step(m.program, m.s, c)
	if fault != api.OK {
		return fault
	}
	ahead, counted := m.s, m.counts(c)
	m.s = s
	if counted {
		m.writeChoice(ahead, c)
	}
	if m.s.N >= m.lastN+m.period {
		m.writeState(m.s)
	}
	return api.OK
}

var modelPrograms = []string{
	"", "j.0", "?a.j.0", "i.4?a.+ba>b0j.1#c.>c1e..j.1", "=a1i.5?b.)ba+aaj.2e..",
	"i.5=a1+ca>c2j.2?d.=a1+da>d3e..", "?a.?b.?c.?d.za0j.1", "i.2j.1m..?a.i.2e..",
}

func someChoice(r *rand.Rand, often int) api.Choice {
	c := api.Choice{}
	if r.Intn(often) == 0 {
		c.Input = r.Intn(256)
	}
	if r.Intn(often*2) == 0 {
		c.Ticks = r.Intn(256)
	}
	c.Interrupt = r.Intn(often*3) == 0
	return c
}

// lived: a machine and the model of it do and are refused the same things.
func lived(t *testing.T, r *rand.Rand, m *model) {
	t.Helper()
	x := made(t, m.program, m.room, m.period)
	m.s = beginning()
	m.writeState(m.s)
	often, saves := 1+r.Intn(4), 2+r.Intn(100)
	for i := 0; i < 200; i++ {
		c := someChoice(r, often)
		if r.Intn(50) == 0 {
			c.Ticks = 256
		}
		if r.Intn(saves) == 0 {
			x.Save()
			m.writeState(m.s)
		}
		wantMachineStep(t, x, c, m.step(c))
		if x.State() != m.s {
			t.Fatalf("%q: State() = %+v, want %+v", m.program, x.State(), m.s)
		}
		wantTrace(t, m.program, x, m.frames...)
	}
}

func TestP7LikeTheModel(t *testing.T) {
	r := rand.New(rand.NewSource(7))
	total := model{}
	for room := 2; room <= 64; room++ {
		for _, program := range modelPrograms {
			m := model{program: program, room: room, period: 1 + r.Intn(50)}
			lived(t, r, &m)
			total.none += m.none
			total.twoStates += m.twoStates
			total.all += m.all
		}
	}
	if total.none < 1000 || total.twoStates < 1000 || total.all < 1000 {
		t.Errorf("too few of a kind: room %d, two states %d, one state %d", total.none, total.twoStates, total.all)
	}
}

// doings: a life of a machine, and what it answered on the way.
func doings(t *testing.T, x *recall.Machine, seed int64, from, to int, answers []string) []string {
	t.Helper()
	for i := from; i < to; i++ {
		r := rand.New(rand.NewSource(seed*1000 + int64(i)))
		wantMachineStep(t, x, someChoice(r, 2), api.OK)
		if r.Intn(20) == 0 {
			x.Save()
		}
		answers = append(answers, x.Trace())
	}
	return answers
}

// Machines side by side answer as each does alone; also those of one program.
func TestP2MachinesShareNothing(t *testing.T) {
	const many, length = 6, 120
	var alone, beside [many][]string
	var list [many]*recall.Machine
	program := modelPrograms[3]
	for i := range list {
		alone[i] = doings(t, made(t, program, 2+i%3, 7+i), int64(i), 0, length, nil)
		list[i] = made(t, program, 2+i%3, 7+i)
	}
	for n := 0; n < length; n++ {
		for i, x := range list {
			beside[i] = doings(t, x, int64(i), n, n+1, beside[i])
		}
	}
	for i := range list {
		for n := range alone[i] {
			if alone[i][n] != beside[i][n] {
				t.Fatalf("machine %d behind %d steps: %x, alone %x", i, n+1, beside[i][n], alone[i][n])
			}
		}
	}
}

// Asking changes nothing, and what was answered stays as it was.
func TestP2Asking(t *testing.T) {
	x, twin := made(t, modelPrograms[3], 4, 7), made(t, modelPrograms[3], 4, 7)
	kept := []string{}
	for n := 0; n < 100; n++ {
		s := x.State()
		s.N, s.Pc, s.Regs = 77, 7, "long ago"
		kept = append(kept, strings.Clone(x.Trace()), x.Trace())
		doings(t, x, 1, n, n+1, nil)
		doings(t, twin, 1, n, n+1, nil)
	}
	if x.Trace() != twin.Trace() || x.State() != twin.State() {
		t.Fatalf("asked: %+v, not asked: %+v", x.State(), twin.State())
	}
	for i := 0; i < len(kept); i += 2 {
		if kept[i] != kept[i+1] {
			t.Fatalf("what was answered at %d has changed", i/2)
		}
	}
}

// A New that is refused leaves the machines that there are, and come, alone.
func TestP1RefusedNew(t *testing.T) {
	x := made(t, "?a.j.0", 3, 4)
	walk(t, x, 5, api.Choice{Input: 3})
	s, trace := x.State(), x.Trace()
	wantNew(t, "x", 3, 4, api.ErrCode)
	wantNew(t, "j.0", 1, 4, api.ErrArg)
	wantNew(t, "j.0", 65, 51, api.ErrArg)
	if x.State() != s || x.Trace() != trace {
		t.Fatalf("%+v, want %+v", x.State(), s)
	}
	wantTrace(t, "the next", made(t, "j.0", 2, 1), stateFrame(0, beginning()))
}
