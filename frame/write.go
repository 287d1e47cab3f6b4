package frame

import "recall/api"

// The kinds of frames: a frame's first byte.
const (
	KindState  = 'C'
	KindChoice = 'E'
)

const (
	sumSize = 4
	summed  = api.Frame - sumSize
)

// The bits of what in a state is either so or not.
const (
	pending = 1
	halted  = 2
)

// numbers is after how many frames their numbers begin again: a frame has two
// bytes for its own.
const numbers = 65536

// Next is the number of the frame behind that of a number.
func Next(number int) int { return (number + 1) % numbers }

// OfState is the frame of a state of a machine.
func OfState(number int, s api.State) string {
	body := head(KindState, number, s.N)
	body = body + low(s.Pc, 1)
	body = body + s.Regs
	body = body + s.Cells
	body = body + low(s.Clock, 2)
	body = body + low(s.Handler+1, 1)
	body = body + low(s.Back+1, 1)
	body = body + low(flags(s), 1)
	return whole(body)
}

// OfChoice is the frame of a choice at the step whose N ahead of it is n.
func OfChoice(number, n int, c api.Choice) string {
	body := head(KindChoice, number, n)
	body = body + low(c.Input, 1)
	body = body + low(c.Ticks, 1)
	if c.Interrupt {
		body = body + low(1, 1)
	}
	return whole(body)
}

// head is what frames of both kinds begin with.
func head(kind, number, n int) string {
	text := low(kind, 1)
	text = text + low(number, 2)
	return text + low(n, 4)
}

func flags(s api.State) int {
	bits := 0
	if s.Pending {
		bits += pending
	}
	if s.Halted {
		bits += halted
	}
	return bits
}

// whole is a frame that begins with body: all that no field claims is 0.
func whole(body string) string {
	body = body + low(0, summed-len(body))
	sum := Sum(body)
	return body + low(sum, sumSize)
}

// low is a number in that many bytes, the lowest first; what does not fit is
// left out, so that numbers go modulo their bytes.
func low(n, size int) string {
	bytes := []byte{}
	for i := 0; i < size; i++ {
		bytes = append(bytes, byte(n))
		n = n >> 8
	}
	return string(bytes)
}
