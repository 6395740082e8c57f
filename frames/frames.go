// Package frames is layer 1: memory in frames, each counted. See shared/doc/01-frames.md.
package frames

import (
	"iter"

	"taffrail/api"
)

// Mem is memory in frames.
type Mem struct {
	frames []frame
}

// page is what a frame holds: an array, so that it is held against a blank one as a whole.
type page [api.FrameSize]byte

// frame is its bytes and, embedded, its count.
type frame struct {
	count
	bytes page
}

// count is how many references there are to something.
type count struct {
	refs int
}

func (c *count) inUse() bool { return c.refs > 0 }

func (c *count) full() bool { return c.refs >= api.MaxRefs }

func (c *count) share() { c.refs++ }

func (c *count) free() { c.refs-- }

// New is a memory of so many frames, none of them in use.
func New(frames int) (*Mem, api.Errno) {
	if frames < 1 || frames > api.MaxFrames {
		return nil, api.ErrArg
	}
	return &Mem{frames: make([]frame, frames)}, api.OK
}

// Alloc gives one reference to the first frame that is not in use.
func (m *Mem) Alloc() (int, api.Errno) {
	if m == nil {
		return 0, api.ErrNil
	}
	var found *frame
	number := 0
search:
	for k, f := range m.all() {
		if !f.inUse() {
			number, found = k, f
			break search
		}
	}
	if found == nil {
		return 0, api.ErrMem
	}
	found.wipe()
	found.share()
	return number, api.OK
}

// Share gives a frame one reference more.
func (m *Mem) Share(frame int) api.Errno {
	f, e := m.find(frame)
	if e != api.OK {
		return e
	}
	if f.full() {
		return api.ErrArg
	}
	f.share()
	return api.OK
}

// Free takes one reference from a frame.
func (m *Mem) Free(frame int) api.Errno {
	f, e := m.find(frame)
	if e != api.OK {
		return e
	}
	f.free()
	return api.OK
}

// Read is n bytes of a frame, from at on.
func (m *Mem) Read(frame int, at int, n int) (string, api.Errno) {
	f, e := m.find(frame)
	if e != api.OK {
		return "", e
	}
	if !within(api.FrameSize, at, n) {
		return "", api.ErrArg
	}
	return string(f.bytes[at : at+n]), api.OK
}

// Write lays the bytes of s into a frame, from at on.
func (m *Mem) Write(frame int, at int, s string) api.Errno {
	f, e := m.find(frame)
	if e != api.OK {
		return e
	}
	if !within(api.FrameSize, at, len(s)) {
		return api.ErrArg
	}
	copy(f.bytes[at:], s)
	return api.OK
}

// Refs is how many references a frame has.
func (m *Mem) Refs(frame int) int {
	f, e := m.find(frame)
	if e != api.OK {
		return 0
	}
	return f.refs
}

// Left is how many frames are not in use.
func (m *Mem) Left() int {
	left := 0
	for _, f := range m.all() {
		if !f.inUse() {
			left++
		}
	}
	return left
}

// Total is how many frames there are.
func (m *Mem) Total() int {
	if m == nil {
		return 0
	}
	return len(m.frames)
}

// all goes through the frames with their numbers, rising; through none of a nil memory.
func (m *Mem) all() iter.Seq2[int, *frame] {
	return func(yield func(int, *frame) bool) {
		for k := range m.Total() {
			if !yield(k, &m.frames[k]) {
				return
			}
		}
	}
}

// find is the frame of that number, if it is in use.
func (m *Mem) find(number int) (*frame, api.Errno) {
	if m == nil {
		return nil, api.ErrNil
	}
	if !within(len(m.frames)-1, number) || !m.frames[number].inUse() {
		return nil, api.ErrFrame
	}
	return &m.frames[number], api.OK
}

// wipe makes a frame blank for whoever gets it next; one that nobody has written to is left as it is.
func (f *frame) wipe() {
	if blank := (page{}); f.bytes != blank {
		f.bytes = blank
	}
}

// within tells whether all numbers are at least 0, and together at most most. It takes them from what is left, as their sum might wrap round.
func within(most int, numbers ...int) bool {
	left := most
	for _, n := range numbers {
		if n < 0 || n > left {
			return false
		}
		left -= n
	}
	return true
}
