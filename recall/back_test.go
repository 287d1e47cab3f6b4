package recall_test

import (
	"math/rand"
	"testing"

	"recall/api"
	"recall/recall"
)

// life: a machine, and all states that it had, by their times.
type life struct {
	program string
	x       *recall.Machine
	all     []api.State
}

func (l *life) step(t *testing.T, c api.Choice) {
	t.Helper()
	wantMachineStep(t, l.x, c, api.OK)
	l.all = append(l.all, l.x.State())
}

// someLife: any choices, and Save now and then.
func someLife(t *testing.T, r *rand.Rand, program string, room, period, length int) *life {
	t.Helper()
	x := made(t, program, room, period)
	l := &life{program, x, []api.State{x.State()}}
	often, saves := 1+r.Intn(8), 5+r.Intn(50)
	for i := 0; i < length && !x.State().Halted; i++ {
		l.step(t, someChoice(r, often))
		if r.Intn(saves) == 0 {
			x.Save()
		}
	}
	return l
}

// told: every time within the span of a trace is told as it was; to where the
// span reaches, or -1.
func (l *life) told(t *testing.T, what, trace string) int {
	t.Helper()
	first, last, fault := recall.Span(trace)
	if fault != api.OK {
		wantNoSpan(t, what, trace)
		return -1
	}
	if last >= len(l.all) {
		t.Fatalf("%s: %q: Span = %d, %d, behind %d steps", what, l.program, first, last, len(l.all)-1)
	}
	for n := first; n <= last; n++ {
		wantAt(t, what, l.program, trace, n, l.all[n])
	}
	wantNoAt(t, what, l.program, trace, first-1, api.ErrEarly)
	wantNoAt(t, what, l.program, trace, last+1, api.ErrLate)
	return last
}

// changes: when each cell changed, by the states that there were.
func (l *life) changes(t *testing.T, trace string) {
	t.Helper()
	first, last, _ := recall.Span(trace)
	for cell := range 16 {
		want := -1
		for n := first; n <= last; n++ {
			if n > first && l.all[n].Cells[cell] != l.all[n-1].Cells[cell] {
				want = n
			}
			if n%7 == 0 || n == want || n == last {
				wantChange(t, "its own trace", l.program, trace, n, cell, want)
			}
		}
	}
}

var rooms = []int{2, 3, 4, 7, 20, 63, 64}

func TestP11OwnTrace(t *testing.T) {
	r := rand.New(rand.NewSource(11))
	far := 0
	for _, program := range wordsPrograms {
		for _, room := range rooms {
			for _, period := range []int{1, 2, 5, 17, 50} {
				l := someLife(t, r, program, room, period, 200)
				l.told(t, "behind a step", l.x.Trace())
				l.x.Save()
				trace := l.x.Trace()
				if last := l.told(t, "behind Save", trace); last != len(l.all)-1 {
					t.Fatalf("%q: behind Save the span ends at %d, want %d", program, last, len(l.all)-1)
				}
				first, last, _ := recall.Span(trace)
				far = max(far, last-first)
				if room < 20 {
					l.changes(t, trace)
				}
			}
		}
	}
	if far < 100 {
		t.Fatalf("the longest span is %d", far)
	}
}

// Behind every step, not only at the end.
func TestP11BehindEveryStep(t *testing.T) {
	r := rand.New(rand.NewSource(12))
	for _, program := range wordsPrograms {
		for _, room := range []int{2, 3, 5, 9} {
			x := made(t, program, room, 1+r.Intn(9))
			l := &life{program, x, []api.State{x.State()}}
			for i := 0; i < 60 && !x.State().Halted; i++ {
				l.step(t, someChoice(r, 2))
				l.told(t, "behind a step", x.Trace())
			}
		}
	}
}

// As many whole frames as a beginning has, so many tell what they told.
func TestP11EveryBeginning(t *testing.T) {
	r := rand.New(rand.NewSource(13))
	for _, program := range wordsPrograms {
		for _, room := range []int{2, 3, 8, 20} {
			l := someLife(t, r, program, room, 1+r.Intn(20), 100)
			trace := l.x.Trace()
			run := wordsRun(trace)
			for size := range len(trace) + 1 {
				want := -1
				if size >= 40 {
					want = run[size/40-1].to
				}
				if size%40 == 0 || size%40 == 1 || size%40 == 39 {
					if last := l.told(t, "a beginning", trace[:size]); last != want {
						t.Fatalf("%q: %d bytes reach to %d, want %d", program, size, last, want)
					}
				} else if want < 0 {
					wantNoSpan(t, "a beginning", trace[:size])
				} else {
					wantSpan(t, "a beginning", trace[:size], run[0].n, want)
				}
			}
		}
	}
}

// turned: a trace with bits of a frame turned: those of a pattern, from a bit
// of the frame on, each byte's lowest bit first.
func turned(trace string, frame, bit int, pattern uint32) string {
	b := []byte(trace)
	for i := range 32 {
		if pattern>>i&1 == 1 {
			at := bit + i
			b[40*frame+at/8] ^= 1 << (at % 8)
		}
	}
	return string(b)
}

// wantEnd: the run ends ahead of a frame.
func wantEnd(t *testing.T, run []written, damaged string, frame int) {
	t.Helper()
	if frame == 0 {
		wantNoSpan(t, "the first frame damaged", damaged)
		return
	}
	wantSpan(t, "a frame damaged", damaged, run[0].n, run[frame-1].to)
}

// within: any pattern that has its first bit, and none beyond the frame.
func within(r *rand.Rand, bit int) uint32 {
	pattern := r.Uint32() >> r.Intn(32)
	if bit > 320-32 {
		pattern &= 1<<(320-bit) - 1
	}
	return pattern | 1
}

func TestP11TurnedBits(t *testing.T) {
	r := rand.New(rand.NewSource(14))
	for _, program := range wordsPrograms {
		l := someLife(t, r, program, 2+r.Intn(12), 1+r.Intn(20), 60)
		trace := l.x.Trace()
		run := wordsRun(trace)
		for frame := range run {
			for bit := range 320 {
				for range 10 {
					wantEnd(t, run, turned(trace, frame, bit, within(r, bit)), frame)
				}
			}
			// What is left tells what it told.
			bit := r.Intn(320)
			l.told(t, "a frame damaged", turned(trace, frame, bit, within(r, bit)))
		}
	}
}

// All pairs of bits, and all bits from one to another, at most 32 apart.
func TestP11TurnedPairsAndRows(t *testing.T) {
	l := someLife(t, rand.New(rand.NewSource(15)), reading, 6, 4, 30)
	trace := l.x.Trace()
	run := wordsRun(trace)
	for frame := range run {
		for bit := range 320 {
			for size := 1; size <= 32 && bit+size <= 320; size++ {
				row := uint32(1<<size - 1)
				wantEnd(t, run, turned(trace, frame, bit, row), frame)
				wantEnd(t, run, turned(trace, frame, bit, 1|1<<(size-1)), frame)
			}
		}
	}
}

// Damage of one frame does not show ahead of it, nor is what stands behind it
// taken up again.
func TestP11DamageInTheMiddle(t *testing.T) {
	x := made(t, counting, 64, 3)
	walk(t, x, 30, api.Choice{})
	trace := turned(x.Trace(), 5, 7, 1)
	wantSpan(t, "damaged", trace, 0, 12)
	wantNoAt(t, "damaged", counting, trace, 13, api.ErrLate)
	wantChange(t, "damaged", counting, trace, 12, 0, 12)
	wantNoChange(t, "damaged", counting, trace, 15, 0, api.ErrLate)
}

// All the steps there are, and the numbers gone round.
func TestP11LongLife(t *testing.T) {
	r := rand.New(rand.NewSource(16))
	x := made(t, reading, 64, 50)
	for range 65500 {
		x.Save()
	}
	l := &life{reading, x, []api.State{x.State()}}
	for x.State().N < api.MaxSteps {
		l.step(t, someChoice(r, 30))
		if n := x.State().N; n < 120 || n%999 == 0 {
			l.told(t, "a long life", x.Trace())
		}
	}
	x.Save()
	if last := l.told(t, "all the steps", x.Trace()); last != api.MaxSteps {
		t.Fatalf("the span ends at %d", last)
	}
}

// The answers hang on the arguments alone, and take nothing from what was
// asked ahead of them.
func TestP2GoingBackTwice(t *testing.T) {
	r := rand.New(rand.NewSource(17))
	a := someLife(t, r, reading, 20, 9, 70)
	b := someLife(t, r, counting, 5, 3, 40)
	for range 3 {
		for _, l := range []*life{a, b} {
			l.told(t, "asked again", l.x.Trace())
			l.changes(t, l.x.Trace())
			wantNoAt(t, "refused", "x", l.x.Trace(), 0, api.ErrCode)
			wantNoAt(t, "refused", l.program, "", 0, api.ErrFirst)
		}
	}
}

// Going back changes nothing of the machine whose trace it is.
func TestP2GoingBackLeavesTheMachine(t *testing.T) {
	x, twin := made(t, reading, 7, 5), made(t, reading, 7, 5)
	for n := 0; n < 80; n++ {
		first, last, _ := recall.Span(x.Trace())
		recall.At(reading, x.Trace(), (first+last)/2)
		recall.Changed(reading, x.Trace(), last, 0)
		doings(t, x, 2, n, n+1, nil)
		doings(t, twin, 2, n, n+1, nil)
	}
	if x.Trace() != twin.Trace() || x.State() != twin.State() {
		t.Fatalf("asked: %+v, not asked: %+v", x.State(), twin.State())
	}
}
