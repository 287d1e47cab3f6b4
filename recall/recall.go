// Package recall: a small machine whose steps are written down, and gone back to: see DOC.md.
package recall

import (
	"recall/api"
	"recall/code"
	"recall/frame"
	"recall/history"
	"recall/machine"
	"recall/record"
)

// Check tells whether a text is a program (P3).
func Check(program string) (api.Errno, int) { return code.Check(program) }

// Step does one step (P4).
func Step(program string, s api.State, c api.Choice) (api.State, api.Errno) {
	return machine.Step(program, s, c)
}

// Sum tells the sum of bytes (P5).
func Sum(s string) int { return frame.Sum(s) }

// minRoom is how many frames there must be room for: a choice needs a state
// ahead of it.
const minRoom = 2

// Machine is a machine whose steps are written down.
type Machine struct {
	program string
	period  int
	state   api.State
	written record.Record
}

// New makes a machine (P6).
func New(program string, room, period int) (*Machine, api.Errno) {
	fault, _ := code.Check(program)
	if fault != api.OK {
		return nil, fault
	}
	if room < minRoom || room > api.MaxRoom || period < 1 || period > api.MaxPeriod {
		return nil, api.ErrArg
	}
	x := &Machine{program: program, period: period}
	x.state = machine.Beginning()
	x.written = record.New(room)
	x.Save()
	return x, api.OK
}

// Step does a step, and writes down what must be (P6).
func (x *Machine) Step(c api.Choice) api.Errno {
	behind, fault := machine.Step(x.program, x.state, c)
	if fault != api.OK {
		return fault
	}
	if machine.Counts(x.program, x.state, c) {
		x.written = x.written.WithChoice(x.state, c)
	}
	x.state = behind
	// The choice may have brought a frame of the state ahead of it with it:
	// the period is counted from that one then.
	if x.state.N-x.written.Last >= x.period {
		x.Save()
	}
	return api.OK
}

// Save writes the state down (P6).
func (x *Machine) Save() { x.written = x.written.WithState(x.state) }

// State tells how the machine stands (P6).
func (x *Machine) State() api.State { return x.state }

// Trace tells the frames that are kept (P7).
func (x *Machine) Trace() string { return x.written.Kept }

// Span tells from where to where a trace reaches (P8).
func Span(trace string) (int, int, api.Errno) {
	run := history.Run(trace)
	return history.Span(run)
}

// At tells how the machine stood at a time (P9).
func At(program, trace string, n int) (api.State, api.Errno) {
	fault, _ := code.Check(program)
	if fault != api.OK {
		return api.State{}, fault
	}
	run := history.Run(trace)
	return history.At(program, run, n)
}

// Changed tells when a cell was changed last (P10).
func Changed(program, trace string, n, cell int) (int, api.Errno) {
	fault, _ := code.Check(program)
	if fault != api.OK {
		return 0, fault
	}
	run := history.Run(trace)
	return history.Changed(program, run, n, cell)
}
