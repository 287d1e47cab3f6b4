// Package record: the frames in which a machine is written down, and which of
// them are kept.
package record

import (
	"recall/api"
	"recall/frame"
)

// Record is what has been written down of a machine. It has no slice and no
// pointer, so that a copy shares nothing with what it was copied from.
type Record struct {
	// Kept are the bytes of the frames that are kept.
	Kept string
	// Last is the N of the last frame of a state that was written.
	Last int

	room   int
	number int
}

// New is a record of nothing, with room for that many frames.
func New(room int) Record { return Record{room: room} }

// WithState is the record behind the writing of a state.
func (r Record) WithState(s api.State) Record {
	r = r.withRoom()
	f := frame.OfState(r.number, s)
	r = r.with(f)
	r.Last = s.N
	return r
}

// WithChoice is the record behind the writing of a choice; s is the state
// ahead of its step.
func (r Record) WithChoice(s api.State, c api.Choice) Record {
	r = r.withRoom()
	if r.Kept == "" {
		// A choice tells nothing without a state to begin with.
		r = r.WithState(s)
	}
	f := frame.OfChoice(r.number, s.N, c)
	return r.with(f)
}

// withRoom is the record with room for one more frame.
func (r Record) withRoom() Record {
	if len(r.Kept) >= r.room*api.Frame {
		from := secondState(r.Kept)
		r.Kept = r.Kept[from:]
	}
	return r
}

// with is the record with one more frame, which there is room for.
func (r Record) with(f string) Record {
	r.Kept = r.Kept + f
	r.number = frame.Next(r.number)
	return r
}

// secondState is where the second frame of a state begins; where the frames
// end, if there is none.
func secondState(frames string) int {
	states := 0
	for at := 0; at < len(frames); at += api.Frame {
		if frames[at] == frame.KindState {
			states++
		}
		if states == 2 {
			return at
		}
	}
	return len(frames)
}
