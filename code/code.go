// Package code: the text of a program, and its instructions.
package code

import "recall/api"

// Width is how many bytes an instruction has.
const Width = 3

// The kinds of bytes that an instruction is made of.
const (
	isNone     = 0
	isOp       = 1
	isRegister = 2
	isDigit    = 3
	isPlace    = 4
	isDot      = 5
)

// Instruction is one of a program: its first byte, and the numbers that the
// other two stand for (0 for a dot).
type Instruction struct {
	Op            byte
	Second, Third int
}

// Check tells whether a text is a program, and where it is not.
func Check(program string) (api.Errno, int) {
	if len(program) > Width*api.MaxCode {
		return api.ErrLong, 0
	}
	op := byte(0)
	for i := 0; i < len(program); i++ {
		if i%Width == 0 {
			op = program[i]
		}
		kind := kindOf(op, i%Width)
		if number(kind, program[i]) < 0 {
			return api.ErrCode, i
		}
	}
	if len(program)%Width != 0 {
		return api.ErrCode, len(program)
	}
	return api.OK, 0
}

// At is the instruction of that number in a text that Check calls a program,
// and whether there is one.
func At(program string, at int) (Instruction, bool) {
	// Dividing the length, not multiplying the number: a great number would
	// run over.
	if at < 0 || at >= len(program)/Width {
		return Instruction{}, false
	}
	from := at * Width
	in := Instruction{Op: program[from]}
	second := kindOf(in.Op, 1)
	in.Second = number(second, program[from+1])
	third := kindOf(in.Op, 2)
	in.Third = number(third, program[from+2])
	return in, true
}

// kindOf is what must stand at a place (0 to 2) of an instruction that begins
// with op; isNone behind an op that there is not.
func kindOf(op byte, place int) int {
	switch place {
	case 0:
		return isOp
	case 1:
		return secondOf(op)
	}
	return thirdOf(op)
}

func secondOf(op byte) int {
	switch op {
	case '=', '+', '-', '<', '>', '(', ')', '?', '#', 'z':
		return isRegister
	case 'j', 'i', 'm', 'e', 'h':
		return isDot
	}
	return isNone
}

func thirdOf(op byte) int {
	switch op {
	case '=', '<', '>':
		return isDigit
	case '+', '-', '(', ')':
		return isRegister
	case 'j', 'z', 'i':
		return isPlace
	case '?', '#', 'm', 'e', 'h':
		return isDot
	}
	return isNone
}

// number is what a byte of that kind stands for; -1, if it is not of the kind.
func number(kind int, b byte) int {
	switch kind {
	case isOp:
		if secondOf(b) != isNone {
			return 0
		}
	case isRegister:
		if b >= 'a' && b <= 'd' {
			return int(b - 'a')
		}
	case isDigit:
		return digit(b, 'f')
	case isPlace:
		return digit(b, 'v')
	case isDot:
		if b == '.' {
			return 0
		}
	}
	return -1
}

// digit is the number of a byte that is a digit of a system whose last is
// last; -1, if it is none.
func digit(b, last byte) int {
	if b >= '0' && b <= '9' {
		return int(b - '0')
	}
	if b >= 'a' && b <= last {
		return int(b-'a') + 10
	}
	return -1
}
