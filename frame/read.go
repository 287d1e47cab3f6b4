package frame

import (
	"recall/api"
	"recall/machine"
)

// Frame is what stands in a frame: a State or a Choice, as its Kind says.
type Frame struct {
	Kind      byte
	Number, N int
	State     api.State
	Choice    api.Choice
}

// Reach is the time to which a frame reaches: that of a choice tells of a
// whole step.
func (f Frame) Reach() int {
	if f.Kind == KindChoice {
		return f.N + 1
	}
	return f.N
}

// Read is what stands in a text, and whether that is a frame that can be
// written.
func Read(text string) (Frame, bool) {
	if len(text) != api.Frame {
		return Frame{}, false
	}
	sum := Sum(text[:summed])
	written := value(text[summed:])
	if sum != written {
		return Frame{}, false
	}
	f := Frame{Kind: text[0]}
	f.Number = value(text[1:3])
	f.N = value(text[3:7])
	switch f.Kind {
	case KindState:
		return readState(f, text)
	case KindChoice:
		return readChoice(f, text)
	}
	return Frame{}, false
}

// readState is a frame with the state that stands in text, which is as long as
// a frame, and whether it can be written.
func readState(f Frame, text string) (Frame, bool) {
	flags := text[32]
	if flags > pending+halted || !isNought(text[33:summed]) {
		return Frame{}, false
	}
	f.State = api.State{
		N:       f.N,
		Pc:      int(text[7]),
		Regs:    text[8:12],
		Cells:   text[12:28],
		Clock:   value(text[28:30]),
		Handler: int(text[30]) - 1,
		Back:    int(text[31]) - 1,
		Pending: flags&pending != 0,
		Halted:  flags&halted != 0,
	}
	return f, machine.IsState(f.State)
}

// readChoice is a frame with the choice that stands in text, which is as long
// as a frame, and whether it can be written.
func readChoice(f Frame, text string) (Frame, bool) {
	interrupt := text[9]
	if interrupt > 1 || !isNought(text[10:summed]) {
		return Frame{}, false
	}
	f.Choice = api.Choice{
		Input:     int(text[7]),
		Ticks:     int(text[8]),
		Interrupt: interrupt == 1,
	}
	// Behind the last of all steps there is none that a choice could come at.
	return f, f.N < api.MaxSteps
}

// isNought tells whether all bytes are 0.
func isNought(bytes string) bool {
	for i := 0; i < len(bytes); i++ {
		if bytes[i] != 0 {
			return false
		}
	}
	return true
}

// value is the number that bytes are, the lowest first.
func value(bytes string) int {
	n := 0
	for i := len(bytes) - 1; i >= 0; i-- {
		n = n<<8 + int(bytes[i])
	}
	return n
}
