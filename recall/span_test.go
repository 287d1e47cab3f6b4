package recall_test

import (
	"encoding/binary"
	"math/rand"
	"strings"
	"testing"

	"recall/api"
	"recall/recall"
)

func wantSpan(t *testing.T, what, trace string, first, last int) {
	t.Helper()
	a, b, fault := recall.Span(trace)
	if a != first || b != last || fault != api.OK {
		t.Fatalf("%s: Span = %d, %d, %d, want %d, %d, OK", what, a, b, fault, first, last)
	}
}

func wantNoSpan(t *testing.T, what, trace string) {
	t.Helper()
	a, b, fault := recall.Span(trace)
	if a != 0 || b != 0 || fault != api.ErrFirst {
		t.Fatalf("%s: Span = %d, %d, %d, want 0, 0, ErrFirst", what, a, b, fault)
	}
}

// atTime: a frame of a state of that time, otherwise of noughts.
func atTime(number, n int) string { return stateFrame(number, jumping(n, 0)) }

func tick(number, n int) string { return choiceFrame(number, n, api.Choice{Ticks: 1}) }

// forged: a frame with another byte at a place, and the sum that goes with it.
func forged(f string, at int, b byte) string { return withSum([]byte(with(f, at, b))) }

// forgedN: a frame with another N, and the sum that goes with it.
func forgedN(f string, n uint32) string {
	b := []byte(f)
	binary.LittleEndian.PutUint32(b[3:], n)
	return withSum(b)
}

func TestP8Examples(t *testing.T) {
	x := made(t, "j.0", 2, 50)
	wantSpan(t, "New", x.Trace(), 0, 0)
	walk(t, x, 10, api.Choice{})
	wantSpan(t, "ten steps of noughts", x.Trace(), 0, 0)
	walk(t, x, 1, api.Choice{Ticks: 3})
	wantSpan(t, "a choice", x.Trace(), 0, 11)
	walk(t, x, 1, api.Choice{Ticks: 4})
	wantSpan(t, "one more", x.Trace(), 11, 12)
}

func TestP8NoFrame(t *testing.T) {
	good := atTime(7, 5)
	for size := range good {
		wantNoSpan(t, "a frame cut off", good[:size])
		if size > 0 {
			wantNoSpan(t, "a frame without its beginning", good[size:]+good[:size])
			wantNoSpan(t, "bytes ahead of a frame", good[:size]+good+good)
		}
	}
	for _, b := range []string{"\x00", "\xff", "C", "E", "x"} {
		for _, size := range []int{1, 39, 40, 41, 80, 1 << 24} {
			wantNoSpan(t, "one byte again and again", strings.Repeat(b, size))
		}
	}
	r := rand.New(rand.NewSource(8))
	for i := 0; i < 1000; i++ {
		b := make([]byte, r.Intn(200))
		r.Read(b)
		wantNoSpan(t, "any bytes", string(b))
	}
}

func TestP8ChoiceFirst(t *testing.T) {
	wantNoSpan(t, "a choice", tick(0, 0))
	wantNoSpan(t, "a choice and a state", tick(0, 0)+atTime(1, 1))
	wantNoSpan(t, "a choice and a state", tick(7, 5)+atTime(8, 6)+tick(9, 6))
	wantNoSpan(t, "a choice of noughts", choiceFrame(0, 0, api.Choice{}))
	wantSpan(t, "a state", atTime(7, 5), 5, 5)
	wantSpan(t, "a state and a choice", atTime(7, 5)+tick(8, 5), 5, 6)
}

// The run reaches as far as whole frames do, whatever comes behind them.
func TestP8CutOff(t *testing.T) {
	trace := atTime(7, 5) + tick(8, 6) + tick(9, 7) + atTime(10, 11) + tick(11, 12)
	reach := []int{0, 5, 7, 8, 11, 13}
	for size := range len(trace) + 1 {
		if size < 40 {
			wantNoSpan(t, "cut off", trace[:size])
			continue
		}
		wantSpan(t, "cut off", trace[:size], 5, reach[size/40])
		for _, more := range []string{"C", "\x00", strings.Repeat("\x00", 40), strings.Repeat("E", 99)} {
			wantSpan(t, "cut off, and more", trace[:size]+more, 5, reach[size/40])
		}
	}
	// Behind what is cut off all that stands there is lost.
	for cut := 1; cut < 40; cut++ {
		wantSpan(t, "bytes are missing", trace[:80]+trace[80+cut:], 5, 7)
		wantSpan(t, "bytes too many", trace[:80]+trace[:cut]+trace[80:], 5, 7)
	}
	wantSpan(t, "a frame is missing", trace[:80]+trace[120:], 5, 7)
}

func TestP8WrongSum(t *testing.T) {
	trace := atTime(7, 5) + tick(8, 6) + atTime(9, 8) + tick(10, 9)
	for at := range trace {
		for bit := range 8 {
			damaged := with(trace, at, trace[at]^(1<<bit))
			switch at / 40 {
			case 0:
				wantNoSpan(t, "a bit of the first frame", damaged)
			case 1:
				wantSpan(t, "a bit of the second frame", damaged, 5, 5)
			case 2:
				wantSpan(t, "a bit of the third frame", damaged, 5, 7)
			case 3:
				wantSpan(t, "a bit of the last frame", damaged, 5, 8)
			}
		}
	}
	f := atTime(7, 5)
	highest := f[:36] + string([]byte{f[39], f[38], f[37], f[36]})
	wantNoSpan(t, "the sum with its highest byte first", highest)
	wantNoSpan(t, "a sum of noughts", f[:36]+"\x00\x00\x00\x00")
	turned := []byte(f)
	for i := 36; i < 40; i++ {
		turned[i] ^= 255
	}
	wantNoSpan(t, "the sum with all its bits turned", string(turned))
}

func TestP8Kinds(t *testing.T) {
	f, c := atTime(8, 0), tick(8, 0)
	for b := range 256 {
		kind := byte(b)
		if kind == 'C' {
			wantSpan(t, "C", forged(f, 0, kind), 0, 0)
		} else {
			wantNoSpan(t, "a first frame that is no C", forged(f, 0, kind))
			wantNoSpan(t, "a first frame that is no C", forged(c, 0, kind))
		}
		if kind != 'C' && kind != 'E' {
			wantSpan(t, "a kind that is none", atTime(7, 0)+forged(f, 0, kind)+tick(9, 0), 0, 0)
			wantSpan(t, "a kind that is none", atTime(7, 0)+forged(c, 0, kind)+tick(9, 1), 0, 0)
		}
	}
	wantSpan(t, "a state's frame of noughts, as a choice", atTime(7, 0)+forged(f, 0, 'E'), 0, 1)
}

// bounds: for each byte of a frame's body behind the times the greatest number
// that may stand there.
func bounds(kind byte) [36]int {
	list := [36]int{}
	top := map[byte][][3]int{
		'C': {{7, 7, 32}, {8, 29, 255}, {30, 30, 32}, {31, 31, 33}, {32, 32, 3}},
		'E': {{7, 8, 255}, {9, 9, 1}},
	}
	for _, span := range top[kind] {
		for at := span[0]; at <= span[1]; at++ {
			list[at] = span[2]
		}
	}
	return list
}

// Every number in every byte, from Pc or Input on, ahead of the sum.
func TestP8EveryByte(t *testing.T) {
	busy := api.State{
		N: 6, Pc: 32, Regs: "\x01\x02\x03\xff", Cells: "defghijklmnopqrs", Clock: 65535,
		Handler: 31, Back: 32, Pending: true, Halted: true,
	}
	states := []string{atTime(8, 6), stateFrame(8, busy)}
	choices := []string{tick(8, 6), choiceFrame(8, 6, api.Choice{Input: 255, Ticks: 255, Interrupt: true})}
	ofState, ofChoice := bounds('C'), bounds('E')
	for at := 7; at < 36; at++ {
		for b := range 256 {
			for i := range 2 {
				s, c := forged(states[i], at, byte(b)), forged(choices[i], at, byte(b))
				if b <= ofState[at] {
					wantSpan(t, "a state", s, 6, 6)
					wantSpan(t, "a second state", atTime(7, 5)+s+tick(9, 6), 5, 7)
				} else {
					wantNoSpan(t, "no state", s)
					wantSpan(t, "a second that is no state", atTime(7, 5)+s+tick(9, 6), 5, 5)
				}
				if b <= ofChoice[at] {
					wantSpan(t, "a choice", atTime(7, 5)+c+tick(9, 7), 5, 8)
				} else {
					wantSpan(t, "no choice", atTime(7, 5)+c+tick(9, 7), 5, 5)
				}
			}
		}
	}
}

func TestP8BoundsOfN(t *testing.T) {
	for _, n := range []int{0, 1, 255, 256, 257, 4096, 9998, 9999, 10000} {
		wantSpan(t, "a state", atTime(0, n), n, n)
		wantSpan(t, "a second state", atTime(0, 0)+atTime(1, n), 0, n)
		if n < 10000 {
			wantSpan(t, "a choice", atTime(0, 0)+tick(1, n), 0, n+1)
			wantSpan(t, "a state and a choice", atTime(0, n)+tick(1, n), n, n+1)
		}
	}
	for _, n := range []uint32{10001, 10002, 16383, 1 << 16, 1<<16 + 5, 1<<24 + 5, 1<<31 - 1, 1 << 31, 1<<31 + 5, 1<<32 - 1} {
		wantNoSpan(t, "a state too far", forgedN(atTime(0, 0), n))
		wantSpan(t, "a second state too far", atTime(0, 5)+forgedN(atTime(1, 0), n), 5, 5)
		wantSpan(t, "a choice too far", atTime(0, 5)+forgedN(tick(1, 0), n), 5, 5)
	}
	wantSpan(t, "a choice at all the steps", atTime(0, 0)+tick(1, 10000), 0, 0)
	wantSpan(t, "a choice at all the steps", atTime(0, 10000)+tick(1, 10000), 10000, 10000)
	wantSpan(t, "a choice at the last step", atTime(0, 9999)+tick(1, 9999)+tick(2, 10000), 9999, 10000)
	wantSpan(t, "a state behind the last step", atTime(0, 0)+tick(1, 9999)+atTime(2, 10000)+atTime(3, 10000), 0, 10000)
}

// Of all numbers only the next one goes on.
func TestP8EveryNumber(t *testing.T) {
	for _, first := range []int{0, 1, 254, 255, 256, 32767, 32768, 65279, 65534, 65535} {
		head := atTime(first, 5)
		for second := range 65536 {
			want := 5
			if second == first+1 || first == 65535 && second == 0 {
				want = 7
			}
			wantSpan(t, "a number", head+tick(second, 6), 5, want)
		}
	}
}

func TestP8NumbersWithinTheRun(t *testing.T) {
	wantSpan(t, "over the end", atTime(65534, 5)+tick(65535, 5)+atTime(0, 6)+tick(1, 6), 5, 7)
	wantSpan(t, "one left out", atTime(3, 5)+tick(4, 5)+tick(6, 6)+tick(7, 7), 5, 6)
	wantSpan(t, "one twice", atTime(3, 5)+tick(4, 5)+tick(4, 6)+tick(5, 7), 5, 6)
	wantSpan(t, "backwards", atTime(3, 5)+tick(2, 5)+tick(1, 6), 5, 5)
	wantSpan(t, "one strange among them", atTime(3, 5)+tick(9, 5)+tick(4, 5)+tick(5, 6), 5, 5)
	wantSpan(t, "a new beginning", atTime(3, 5)+tick(4, 5)+atTime(0, 6)+tick(1, 6), 5, 6)
}

// What is no frame has no number and no time, not even noughts: those would go
// on behind 65535 at the beginning.
func TestP8NoFrameIsNoNoughts(t *testing.T) {
	head, tail := atTime(65535, 0), atTime(1, 0)+tick(2, 0)
	f, c := atTime(0, 0), tick(0, 0)
	wantSpan(t, "a frame", head+f+tail, 0, 1)
	for what, none := range map[string]string{
		"noughts":                  strings.Repeat("\x00", 40),
		"noughts with their sum":   forged(f, 0, 0),
		"a wrong sum":              with(f, 36, f[36]^1),
		"a kind that is none":      forged(f, 0, 'D'),
		"a state too far":          forgedN(f, 10001),
		"a state with more flags":  forged(f, 32, 4),
		"a state with more behind": forged(f, 35, 1),
		"no place":                 forged(f, 7, 33),
		"a choice too far":         forgedN(c, 10000),
		"no interrupt":             forged(c, 9, 2),
		"a choice with more":       forged(c, 35, 1),
	} {
		wantSpan(t, what, head+none+tail, 0, 0)
	}
}

// A run may be longer than a machine's room, and than there are numbers.
func TestP8LongRun(t *testing.T) {
	var trace strings.Builder
	for i := range 70000 {
		trace.WriteString(atTime((i+65000)%65536, i/20))
	}
	wantSpan(t, "70000 states", trace.String(), 0, 3499)
	trace.WriteString(tick((70000+65000)%65536, 9999))
	wantSpan(t, "and a choice", trace.String(), 0, 10000)
	trace.WriteString(tick((70001+65000)%65536, 9999))
	wantSpan(t, "and one too many", trace.String(), 0, 10000)
	if s, fault := recall.At("j.0", trace.String(), 10000); fault != api.OK || s != jumping(10000, 1) {
		t.Fatalf("At(10000) = %+v, %d", s, fault)
	}
	if m, fault := recall.Changed("j.0", trace.String(), 10000, 0); fault != api.OK || m != -1 {
		t.Fatalf("Changed = %d, %d", m, fault)
	}
}

// Behind a state its own time is not too early, behind a choice the next is not.
func TestP8Times(t *testing.T) {
	frames := []func(number, n int) string{atTime, tick}
	for aheadKind, ahead := range frames {
		for kind, f := range frames {
			for n := range 20 {
				trace := atTime(0, 5) + ahead(1, 9) + f(2, n)
				reach := 9 + aheadKind
				if n >= reach {
					reach = n + kind
				}
				wantSpan(t, "a time", trace, 5, reach)
			}
		}
	}
	for n := range 10 {
		want := 5
		if n >= 5 {
			want = n + 1
		}
		wantSpan(t, "behind the first", atTime(0, 5)+tick(1, n), 5, want)
	}
	wantSpan(t, "states of one time", atTime(0, 5)+atTime(1, 5)+atTime(2, 5)+tick(3, 5), 5, 6)
	wantSpan(t, "choices of one time", atTime(0, 5)+tick(1, 5)+tick(2, 5)+tick(3, 6), 5, 6)
	wantSpan(t, "a state within a step", atTime(0, 5)+tick(1, 5)+atTime(2, 5)+tick(3, 7), 5, 6)
	wantSpan(t, "too early, then late again", atTime(0, 5)+tick(1, 4)+tick(2, 5)+tick(1, 6), 5, 5)
}
