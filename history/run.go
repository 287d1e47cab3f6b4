// Package history: what the frames of a trace tell of a machine.
package history

import (
	"recall/api"
	"recall/frame"
)

// Run is the run of a trace: its frames up to the first that does not go with
// those ahead of it.
func Run(trace string) []frame.Frame {
	run := []frame.Frame{}
	for len(trace) >= api.Frame {
		f, written := frame.Read(trace[:api.Frame])
		if !written || !follows(run, f) {
			break
		}
		run = append(run, f)
		trace = trace[api.Frame:]
	}
	return run
}

// follows tells whether a frame can come behind those of a run.
func follows(run []frame.Frame, f frame.Frame) bool {
	if len(run) == 0 {
		return f.Kind == frame.KindState
	}
	ahead := run[len(run)-1]
	return f.Number == frame.Next(ahead.Number) && f.N >= ahead.Reach()
}

// Span is the first and the last time that a run tells of.
func Span(run []frame.Frame) (int, int, api.Errno) {
	if len(run) == 0 {
		return 0, 0, api.ErrFirst
	}
	last := run[len(run)-1]
	return run[0].N, last.Reach(), api.OK
}
