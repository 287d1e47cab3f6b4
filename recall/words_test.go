package recall_test

import (
	"encoding/binary"
	"hash/crc32"
	"math/rand"
	"testing"

	"recall/api"
	"recall/recall"
)

// written: what a frame says.
type written struct {
	kind          byte
	number, n, to int
	s             api.State
	c             api.Choice
}

// wordsFrame: a frame that can be written is one that is the same when it is
// written anew.
func wordsFrame(f string) (written, bool) {
	b := []byte(f)
	w := written{kind: b[0], number: int(binary.LittleEndian.Uint16(b[1:])), n: int(binary.LittleEndian.Uint32(b[3:]))}
	if crc32.ChecksumIEEE(b[:36]) != binary.LittleEndian.Uint32(b[36:]) {
		return w, false
	}
	w.s = api.State{
		N: w.n, Pc: int(b[7]), Regs: f[8:12], Cells: f[12:28], Clock: int(binary.LittleEndian.Uint16(b[28:])),
		Handler: int(b[30]) - 1, Back: int(b[31]) - 1, Pending: b[32]%2 == 1, Halted: b[32]/2 == 1,
	}
	w.c = api.Choice{Input: int(b[7]), Ticks: int(b[8]), Interrupt: b[9] == 1}
	w.to = w.n
	if w.kind == 'E' {
		w.to++
		return w, w.n < 10000 && choiceFrame(w.number, w.n, w.c) == f
	}
	return w, w.kind == 'C' && w.n <= 10000 && w.s.Pc <= 32 && w.s.Handler <= 31 && w.s.Back <= 32 && stateFrame(w.number, w.s) == f
}

// wordsRun: the words of P8, one by one.
func wordsRun(trace string) []written {
	run := []written{}
	for len(trace) >= 40 {
		w, can := wordsFrame(trace[:40])
		if !can || len(run) == 0 && w.kind != 'C' {
			break
		}
		if len(run) > 0 {
			ahead := run[len(run)-1]
			if w.number != (ahead.number+1)%65536 || w.n < ahead.to {
				break
			}
		}
		run = append(run, w)
		trace = trace[40:]
	}
	return run
}

// wordsAt: the words of P9, one by one, for a time within the span; whether
// all steps can be done.
func wordsAt(program string, run []written, n int) (api.State, bool) {
	from := 0
	for i, w := range run {
		if w.kind == 'C' && w.n <= n {
			from = i
		}
	}
	s := run[from].s
	for s.N < n {
		c := api.Choice{}
		for _, w := range run[from+1:] {
			if w.kind == 'E' && w.n == s.N {
				c = w.c
			}
		}
		next, fault := recall.Step(program, s, c)
		if fault != api.OK {
			return api.State{}, false
		}
		s = next
	}
	return s, true
}

// wordsChanged: the words of P10, one by one, for a time within the span.
func wordsChanged(program string, run []written, n, cell int) (int, bool) {
	s, known := wordsAt(program, run, n)
	if !known {
		return 0, false
	}
	for m := n; m > run[0].n; m-- {
		ahead, known := wordsAt(program, run, m-1)
		if !known {
			return 0, false
		}
		if s.Cells[cell] != ahead.Cells[cell] {
			return m, true
		}
		s = ahead
	}
	return -1, true
}

// anyState: one of few, so that cells are now and then the same.
func anyState(r *rand.Rand, n int) api.State {
	s := beginning()
	s.N, s.Pc, s.Clock = n, r.Intn(8), r.Intn(3)
	s.Regs = with(s.Regs, r.Intn(4), byte(r.Intn(3)))
	s.Cells = with(s.Cells, r.Intn(4), byte(r.Intn(2)))
	s.Handler, s.Back = r.Intn(4)-1, r.Intn(4)-1
	s.Pending, s.Halted = r.Intn(4) == 0, r.Intn(20) == 0
	return s
}

// anyTrace: frames that mostly go on as they must, and now and then do not.
func anyTrace(r *rand.Rand) string {
	trace := ""
	number, n := 65536-r.Intn(20), r.Intn(5)
	if r.Intn(10) == 0 {
		n = 9990 + r.Intn(11)
	}
	for i, frames := 0, r.Intn(20); i < frames; i++ {
		f, rare := "", 2
		if i == 0 {
			rare = 15
		}
		if r.Intn(rare) == 0 {
			f = choiceFrame(number, n, api.Choice{Input: r.Intn(3), Ticks: r.Intn(3), Interrupt: r.Intn(3) == 0})
			n++
		} else {
			f = stateFrame(number, anyState(r, n))
		}
		switch r.Intn(60) {
		case 0:
			f = with(f, r.Intn(40), byte(r.Intn(256)))
		case 1:
			f = forged(f, r.Intn(36), byte(r.Intn(256)))
		case 2:
			number += r.Intn(3) - 1
		case 3:
			n--
		case 4:
			f = f[:r.Intn(40)]
		}
		trace += f
		number++
		n += max(0, r.Intn(9)-5)
	}
	return trace
}

var wordsPrograms = append([]string{counting, reading, "=a1>a0h..", ">a0>b1>c2h.."}, modelPrograms...)

// What is told of any traces is what the words say of them.
func TestP8P9P10LikeTheWords(t *testing.T) {
	r := rand.New(rand.NewSource(8910))
	kinds := map[string]int{}
	for i := 0; i < 6000; i++ {
		trace, program := anyTrace(r), wordsPrograms[r.Intn(len(wordsPrograms))]
		run := wordsRun(trace)
		kinds["frames "+string(rune('a'+len(run)))]++
		if len(run) == 0 {
			wantNoSpan(t, "any", trace)
			wantNoAt(t, "any", program, trace, 0, api.ErrFirst)
			wantNoChange(t, "any", program, trace, 0, 16, api.ErrFirst)
			continue
		}
		first, last := run[0].n, run[len(run)-1].to
		wantSpan(t, "any", trace, first, last)
		wantNoAt(t, "any", program, trace, first-1, api.ErrEarly)
		wantNoAt(t, "any", program, trace, last+1, api.ErrLate)
		// A forged N may lie far off: the words alone would take too long.
		for n := first; n <= min(last, first+60); n++ {
			s, known := wordsAt(program, run, n)
			if !known {
				kinds["wrong"]++
				wantNoAt(t, "any", program, trace, n, api.ErrWrong)
			} else {
				wantAt(t, "any", program, trace, n, s)
			}
			cell := r.Intn(5)
			m, told := wordsChanged(program, run, n, cell)
			switch {
			case !told:
				wantNoChange(t, "any", program, trace, n, cell, api.ErrWrong)
				if known {
					kinds["wrong on the way down"]++
				}
			default:
				wantChange(t, "any", program, trace, n, cell, m)
				if m < 0 {
					kinds["never"]++
				} else {
					kinds["changed"]++
				}
			}
		}
	}
	for _, kind := range []string{"frames a", "frames b", "frames f", "frames k", "wrong", "wrong on the way down", "never", "changed"} {
		if kinds[kind] < 100 {
			t.Errorf("too few of a kind: %s: %d", kind, kinds[kind])
		}
	}
}
