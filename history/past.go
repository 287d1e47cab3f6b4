package history

import (
	"recall/api"
	"recall/frame"
	"recall/machine"
)

// past is how a machine stood at a time.
type past struct {
	n     int
	state api.State
	// known is false behind a step that could not be done, up to the next
	// frame of a state.
	known bool
	// later are the frames from this time on that have not been followed yet.
	later []frame.Frame
}

// At is the state at a time, by a run.
func At(program string, run []frame.Frame, n int) (api.State, api.Errno) {
	first, last, fault := Span(run)
	if fault != api.OK {
		return api.State{}, fault
	}
	if n < first {
		return api.State{}, api.ErrEarly
	}
	if n > last {
		return api.State{}, api.ErrLate
	}
	frames := since(run, n)
	p := begin(frames)
	for p.n < n {
		p = p.next(program)
	}
	if !p.known {
		return api.State{}, api.ErrWrong
	}
	return p.state, api.OK
}

// Changed is the last time, up to n, at which a cell was not as one step
// earlier; -1, if there is none.
func Changed(program string, run []frame.Frame, n, cell int) (int, api.Errno) {
	_, fault := At(program, run, n)
	if fault != api.OK {
		return 0, fault
	}
	if !machine.IsCell(cell) {
		return 0, api.ErrArg
	}
	// Upwards, each step is done but once; what is found last is what would be
	// met first from n downwards, a time that is not known no less than a
	// change.
	changed := -1
	p := begin(run)
	for p.n < n {
		ahead := p
		p = p.next(program)
		if !p.known {
			changed, fault = 0, api.ErrWrong
		} else if ahead.known && differ(p, ahead, cell) {
			changed, fault = p.n, api.OK
		}
	}
	return changed, fault
}

func differ(a, b past, cell int) bool {
	one := machine.Cell(a.state, cell)
	other := machine.Cell(b.state, cell)
	return one != other
}

// since are the frames of a run from the last state up to n on; all, if there
// is none.
func since(run []frame.Frame, n int) []frame.Frame {
	from := 0
	for i := 0; i < len(run); i++ {
		if run[i].Kind == frame.KindState && run[i].N <= n {
			from = i
		}
	}
	return run[from:]
}

// begin is the past at the first of frames that begin with a state.
func begin(frames []frame.Frame) past {
	p := past{later: frames}
	if len(frames) > 0 {
		p.n = frames[0].N
	}
	return p.told()
}

// next is the past one step later.
func (p past) next(program string) past {
	c := api.Choice{}
	if p.comes(frame.KindChoice) {
		c = p.later[0].Choice
		p.later = p.later[1:]
	}
	if p.known {
		s, fault := machine.Step(program, p.state, c)
		p.state = s
		p.known = fault == api.OK
	}
	p.n++
	return p.told()
}

// told is the past as the last frame of a state of that time tells it, if
// there is one.
func (p past) told() past {
	for p.comes(frame.KindState) {
		p.state = p.later[0].State
		p.known = true
		p.later = p.later[1:]
	}
	return p
}

// comes tells whether the next frame is of that kind and of this time.
func (p past) comes(kind byte) bool {
	return len(p.later) > 0 && p.later[0].Kind == kind && p.later[0].N == p.n
}
