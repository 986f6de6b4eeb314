// Package ram is layer 1: see shared/doc/01-ram.md.
package ram

import (
	"slices"

	"demesne/api"
)

// page is the bytes of one frame.
type page [api.PageSize]byte

// RAM is a memory of frames, some of which aren't there.
type RAM struct {
	frames  int
	holes   []api.Range
	written map[int]*page // a frame that isn't in it has no byte but 0
}

// New: a memory of so many frames, all bytes 0, without those of the holes.
func New(frames int, holes []api.Range) (*RAM, api.Errno) {
	if frames < 1 {
		return nil, api.ErrArg
	}
	if frames > api.MaxFrames || len(holes) > api.MaxRanges {
		return nil, api.ErrBig
	}
	for _, h := range holes {
		if h.From < 0 || h.From > h.To || h.To > frames {
			return nil, api.ErrForm
		}
	}
	return &RAM{frames: frames, holes: slices.Clone(holes), written: map[int]*page{}}, api.OK
}

// Frames: how many there are, with the holes.
func (r *RAM) Frames() int {
	return r.frames
}

// Has: is a frame there?
func (r *RAM) Has(frame int) bool {
	if frame < 0 || frame >= r.frames {
		return false
	}
	for _, h := range r.holes {
		if h.From <= frame && frame < h.To {
			return false
		}
	}
	return true
}

// Load: the number of so many bytes at an address, the lowest first.
func (r *RAM) Load(addr uint64, size int) (uint64, api.Errno) {
	if e := r.check(addr, size); e != api.OK {
		return 0, e
	}
	frame, at, low := split(addr, size)
	x := r.read(frame, at, low)
	if low < size {
		x |= r.read(frame+1, 0, size-low) << (8 * low)
	}
	return x, api.OK
}

// Store: so many bytes of a number, the lowest first, at an address.
func (r *RAM) Store(addr uint64, size int, x uint64) api.Errno {
	if e := r.check(addr, size); e != api.OK {
		return e
	}
	frame, at, low := split(addr, size)
	r.write(frame, at, low, x)
	if low < size {
		r.write(frame+1, 0, size-low, x>>(8*low))
	}
	return api.OK
}

// Zero: a frame's bytes are 0.
func (r *RAM) Zero(frame int) api.Errno {
	if !r.Has(frame) {
		return api.ErrBus
	}
	delete(r.written, frame)
	return api.OK
}

// Copy: a frame has another one's bytes.
func (r *RAM) Copy(to, from int) api.Errno {
	if !r.Has(to) || !r.Has(from) {
		return api.ErrBus
	}
	p := r.written[from]
	if p == nil {
		delete(r.written, to)
		return api.OK
	}
	own := *p // an array of its own: a later store to one of the two doesn't show in the other
	r.written[to] = &own
	return api.OK
}

// Clear: has a frame no byte but 0?
func (r *RAM) Clear(frame int) bool {
	p := r.written[frame]
	return p == nil || *p == page{}
}

// check: the error of an access, ahead of any change.
func (r *RAM) check(addr uint64, size int) api.Errno {
	switch size {
	case 1, 2, 4, 8:
	default:
		return api.ErrArg
	}
	last := addr + uint64(size-1)
	if last < addr || !r.Has(int(addr/api.PageSize)) || !r.Has(int(last/api.PageSize)) {
		return api.ErrBus
	}
	return api.OK
}

// split: the frame of an address, the place in it, and how many of the bytes are still in that frame.
func split(addr uint64, size int) (frame, at, low int) {
	at = int(addr % api.PageSize)
	return int(addr / api.PageSize), at, min(size, api.PageSize-at)
}

// read: the number of n bytes of one frame.
func (r *RAM) read(frame, at, n int) uint64 {
	p := r.written[frame]
	if p == nil {
		return 0
	}
	var x uint64
	for i := range n {
		x |= uint64(p[at+i]) << (8 * i)
	}
	return x
}

// write: n bytes of a number into one frame.
func (r *RAM) write(frame, at, n int, x uint64) {
	p := r.written[frame]
	if p == nil {
		p = &page{}
		r.written[frame] = p
	}
	for i := range n {
		p[at+i] = byte(x >> (8 * i))
	}
}
