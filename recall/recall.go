// Package recall: a small machine whose steps are written down, and gone back to: see DOC.md.
package recall

import (
	"recall/api"
	"recall/code"
	"recall/frame"
	"recall/machine"
)

// Check tells whether a text is a program (P3).
func Check(program string) (api.Errno, int) { return code.Check(program) }

// Step does one step (P4).
func Step(program string, s api.State, c api.Choice) (api.State, api.Errno) {
	return machine.Step(program, s, c)
}

// Sum tells the sum of bytes (P5).
func Sum(s string) int { return frame.Sum(s) }

// Machine is a machine whose steps are written down.
type Machine struct{}

// New makes a machine (P6).
func New(program string, room, period int) (*Machine, api.Errno) { return nil, api.OK }

// Step does a step, and writes down what must be (P6).
func (x *Machine) Step(c api.Choice) api.Errno { return api.OK }

// Save writes the state down (P6).
func (x *Machine) Save() {}

// State tells how the machine stands (P6).
func (x *Machine) State() api.State { return api.State{} }

// Trace tells the frames that are kept (P7).
func (x *Machine) Trace() string { return "" }

// Span tells from where to where a trace reaches (P8).
func Span(trace string) (int, int, api.Errno) { return 0, 0, api.OK }

// At tells how the machine stood at a time (P9).
func At(program, trace string, n int) (api.State, api.Errno) { return api.State{}, api.OK }

// Changed tells when a cell was changed last (P10).
func Changed(program, trace string, n, cell int) (int, api.Errno) { return 0, api.OK }
