// Package machine: what a state and a choice are, and how a step is done.
package machine

import (
	"recall/api"
	"recall/code"
)

const (
	registers  = 4
	cells      = 16
	byteRange  = 256
	clockRange = 65536
)

// IsState tells whether s is a state of a machine.
func IsState(s api.State) bool {
	return within(s.N, 0, api.MaxSteps) &&
		within(s.Pc, 0, api.MaxCode) &&
		len(s.Regs) == registers &&
		len(s.Cells) == cells &&
		within(s.Clock, 0, clockRange-1) &&
		within(s.Handler, -1, api.MaxCode-1) &&
		within(s.Back, -1, api.MaxCode)
}

// IsChoice tells whether c is a choice.
func IsChoice(c api.Choice) bool {
	return within(c.Input, 0, byteRange-1) && within(c.Ticks, 0, api.MaxTicks)
}

// IsCell tells whether there is a cell of that number.
func IsCell(at int) bool { return within(at, 0, cells-1) }

// Cell is the cell of that number; 0, if there is none.
func Cell(s api.State, at int) int { return get(s.Cells, at) }

func within(n, low, high int) bool { return n >= low && n <= high }

// Beginning is the state at the beginning.
func Beginning() api.State {
	return api.State{
		Regs:    noughts(registers),
		Cells:   noughts(cells),
		Handler: -1,
		Back:    -1,
	}
}

func noughts(size int) string {
	bytes := []byte{}
	for i := 0; i < size; i++ {
		bytes = append(bytes, 0)
	}
	return string(bytes)
}

// Counts tells whether a choice counts at the step of a state that is not
// halted.
func Counts(program string, s api.State, c api.Choice) bool {
	if c.Interrupt || c.Ticks != 0 {
		return true
	}
	// An interrupt that waited may come now: the step's instruction is then
	// the handler's.
	s = arrive(s, c)
	in, found := code.At(program, s.Pc)
	return c.Input != 0 && found && in.Op == '?'
}

// Step is the state behind one step.
func Step(program string, s api.State, c api.Choice) (api.State, api.Errno) {
	fault := refusal(program, s, c)
	if fault != api.OK {
		return api.State{}, fault
	}
	s = arrive(s, c)
	in, found := code.At(program, s.Pc)
	if found {
		s = do(in, s, c.Input)
	} else {
		s.Halted = true
	}
	s.N++
	return s, api.OK
}

// refusal is why a step cannot be done, or OK.
func refusal(program string, s api.State, c api.Choice) api.Errno {
	fault, _ := code.Check(program)
	if fault != api.OK {
		return fault
	}
	if !IsState(s) {
		return api.ErrState
	}
	if !IsChoice(c) {
		return api.ErrArg
	}
	if s.Halted || s.N >= api.MaxSteps {
		return api.ErrHalt
	}
	return api.OK
}

// arrive is the state when what comes from outside has come, ahead of the
// step's instruction.
func arrive(s api.State, c api.Choice) api.State {
	s.Clock = (s.Clock + c.Ticks) % clockRange
	if c.Interrupt {
		s.Pending = true
	}
	if s.Pending && s.Handler >= 0 && s.Back < 0 {
		s.Pending = false
		s.Back = s.Pc
		s.Pc = s.Handler
	}
	return s
}

// do is the state behind an instruction.
func do(in code.Instruction, s api.State, input int) api.State {
	// Pc moves first: the instructions that say where to go on then set it.
	s.Pc++
	switch in.Op {
	case '=', '+', '-', '<', '(', '?', '#':
		value := result(in, s, input)
		s.Regs = put(s.Regs, in.Second, value)
	case '>':
		value := get(s.Regs, in.Second)
		s.Cells = put(s.Cells, in.Third, value)
	case ')':
		value := get(s.Regs, in.Second)
		cell := get(s.Regs, in.Third) % cells
		s.Cells = put(s.Cells, cell, value)
	default:
		return turn(in, s)
	}
	return s
}

// result is what the register of an instruction that sets one becomes.
func result(in code.Instruction, s api.State, input int) int {
	first := get(s.Regs, in.Second)
	switch in.Op {
	case '=':
		return in.Third
	case '+':
		second := get(s.Regs, in.Third)
		return (first + second) % byteRange
	case '-':
		second := get(s.Regs, in.Third)
		// Lifted by a whole range: the rest of a negative number is negative.
		return (first - second + byteRange) % byteRange
	case '<':
		return get(s.Cells, in.Third)
	case '(':
		cell := get(s.Regs, in.Third) % cells
		return get(s.Cells, cell)
	case '?':
		return input
	case '#':
		return s.Clock % byteRange
	}
	return first
}

// turn is the state behind an instruction that changes no register and no
// cell, but where the machine goes on.
func turn(in code.Instruction, s api.State) api.State {
	switch in.Op {
	case 'j':
		s.Pc = in.Third
	case 'z':
		if get(s.Regs, in.Second) == 0 {
			s.Pc = in.Third
		}
	case 'i':
		s.Handler = in.Third
	case 'm':
		s.Handler = -1
	case 'e':
		if s.Back >= 0 {
			s.Pc = s.Back
			s.Back = -1
		}
	case 'h':
		s.Halted = true
	}
	return s
}

// get is the byte at a place; 0, if there is none.
func get(bytes string, at int) int {
	if at < 0 || at >= len(bytes) {
		return 0
	}
	return int(bytes[at])
}

// put is the bytes with another one at a place; the same, if there is no such
// place.
func put(bytes string, at, value int) string {
	if at < 0 || at >= len(bytes) {
		return bytes
	}
	changed := []byte(bytes)
	changed[at] = byte(value)
	return string(changed)
}
