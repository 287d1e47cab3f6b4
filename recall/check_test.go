package recall_test

import (
	"strings"
	"testing"

	"recall/api"
	"recall/recall"
)

const (
	registers = "abcd"
	digits    = "0123456789abcdef"
	places    = "0123456789abcdefghijklmnopqrstuv"
	dot       = "."
)

// forms: for each first byte, what may stand behind it.
var forms = []struct{ first, second, third string }{
	{"=", registers, digits},
	{"+", registers, registers},
	{"-", registers, registers},
	{"<", registers, digits},
	{">", registers, digits},
	{"(", registers, registers},
	{")", registers, registers},
	{"?", registers, dot},
	{"#", registers, dot},
	{"j", dot, places},
	{"z", registers, places},
	{"i", dot, places},
	{"m", dot, dot},
	{"e", dot, dot},
	{"h", dot, dot},
}

func wantCheck(t *testing.T, program string, fault api.Errno, at int) {
	t.Helper()
	gotFault, gotAt := recall.Check(program)
	if gotFault != fault || gotAt != at {
		t.Fatalf("Check(%.100q) = %d, %d, want %d, %d", program, gotFault, gotAt, fault, at)
	}
}

// wantByte: a byte is taken behind a beginning, at its place, if allowed has
// it; then the text ends within an instruction, or at the end of one.
func wantByte(t *testing.T, beginning string, b byte, allowed string) {
	t.Helper()
	text := beginning + string([]byte{b})
	switch {
	case strings.IndexByte(allowed, b) < 0:
		wantCheck(t, text, api.ErrCode, len(beginning))
		wantCheck(t, text+".."[:(3-len(text)%3)%3], api.ErrCode, len(beginning))
	case len(text)%3 == 0:
		wantCheck(t, text, api.OK, 0)
	default:
		wantCheck(t, text, api.ErrCode, len(text))
	}
}

// At the head of a program, and at the last instruction that there may be:
// every byte at every place of every instruction.
func TestP3EveryByteAtEveryPlace(t *testing.T) {
	firsts := ""
	for _, f := range forms {
		firsts += f.first
	}
	for _, ahead := range []string{"", strings.Repeat("h..", 31)} {
		for b := 0; b < 256; b++ {
			wantByte(t, ahead, byte(b), firsts)
			for _, f := range forms {
				wantByte(t, ahead+f.first, byte(b), f.second)
				for i := range f.second {
					wantByte(t, ahead+f.first+f.second[i:i+1], byte(b), f.third)
				}
			}
		}
	}
}

func TestP3Examples(t *testing.T) {
	for _, program := range []string{"", "=a5+ab>a0", "?a.)aa#b.j.0", "i.vm..e..h..zd9"} {
		wantCheck(t, program, api.OK, 0)
	}
	wantCheck(t, "=a", api.ErrCode, 2)
	wantCheck(t, "=ag", api.ErrCode, 2)
	wantCheck(t, "+a5", api.ErrCode, 2)
	wantCheck(t, "x", api.ErrCode, 0)
	wantCheck(t, "j00", api.ErrCode, 1)
	wantCheck(t, "j.w", api.ErrCode, 2)
	wantCheck(t, "h..h.", api.ErrCode, 5)
}

// Of several wrong bytes the first is told, and it goes ahead of an early end.
func TestP3FirstWrongByte(t *testing.T) {
	wantCheck(t, "xxx", api.ErrCode, 0)
	wantCheck(t, "=xx", api.ErrCode, 1)
	wantCheck(t, "=a5=ax=x5", api.ErrCode, 5)
	wantCheck(t, "x=", api.ErrCode, 0)
	wantCheck(t, "h..=x", api.ErrCode, 4)
	wantCheck(t, "h..\xff", api.ErrCode, 3)
	wantCheck(t, "é", api.ErrCode, 0)
}

func TestP3Lengths(t *testing.T) {
	full := strings.Repeat("=a5", api.MaxCode)
	for n := 0; n <= len(full); n++ {
		if n%3 == 0 {
			wantCheck(t, full[:n], api.OK, 0)
		} else {
			wantCheck(t, full[:n], api.ErrCode, n)
		}
	}
	if len(full) != 96 {
		t.Fatalf("a full program has %d bytes", len(full))
	}
	wantCheck(t, full+"=", api.ErrLong, 0)
	wantCheck(t, full+"=a5", api.ErrLong, 0)
	// What is too long is not looked at: ErrLong is named ahead of ErrCode.
	wantCheck(t, strings.Repeat("x", 96), api.ErrCode, 0)
	wantCheck(t, strings.Repeat("x", 97), api.ErrLong, 0)
	wantCheck(t, strings.Repeat("\x00", 5000000), api.ErrLong, 0)
}
