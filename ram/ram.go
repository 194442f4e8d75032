// Package ram is layer 1: see shared/doc/01-ram.md.
package ram

import "viceroy/api"

// frame is an array, so that no two frames can share bytes.
type frame [api.FrameBytes]byte

// Ram is frames of bytes.
type Ram struct{ frames []frame }

// New makes one of so many frames.
func New(frames int) (*Ram, api.Errno) {
	if frames < 1 || frames > api.MaxFrames {
		return nil, api.ErrArg
	}
	return &Ram{frames: make([]frame, frames)}, api.OK
}

// Frames is how many there are.
func (r *Ram) Frames() int { return len(r.frames) }

// has is asked ahead of every use of a frame's number: any int may come in.
func (r *Ram) has(n int) bool { return n >= 0 && n < len(r.frames) }

// place finds the bytes of a number in the memory itself, for Load to read and Store to write.
// Sizes divide a frame's, so what is aligned never reaches into a second frame.
func (r *Ram) place(addr, size int) ([]byte, api.Errno) {
	if size != 1 && size != 2 && size != 4 {
		return nil, api.ErrArg
	}
	if addr%size != 0 {
		return nil, api.ErrAlign
	}
	// Division rounds towards 0: the sign is asked first, else -1 would count as in frame 0.
	if addr < 0 || !r.has(addr/api.FrameBytes) {
		return nil, api.ErrAddress
	}
	k := addr % api.FrameBytes
	return r.frames[addr/api.FrameBytes][k : k+size], api.OK
}

// Load reads a number.
func (r *Ram) Load(addr, size int) (uint32, api.Errno) {
	b, e := r.place(addr, size)
	if e != api.OK {
		return 0, e
	}
	var w uint32
	for i, x := range b {
		w |= uint32(x) << (8 * i)
	}
	return w, api.OK
}

// Store writes one.
func (r *Ram) Store(addr, size int, w uint32) api.Errno {
	b, e := r.place(addr, size)
	if e != api.OK {
		return e
	}
	for i := range b {
		b[i] = byte(w >> (8 * i))
	}
	return api.OK
}

// Frame tells a frame's bytes.
func (r *Ram) Frame(n int) ([]byte, api.Errno) {
	if !r.has(n) {
		return nil, api.ErrAddress
	}
	b := make([]byte, api.FrameBytes)
	copy(b, r.frames[n][:])
	return b, api.OK
}

// Lay writes a frame's first bytes.
func (r *Ram) Lay(n int, b ...byte) api.Errno {
	if !r.has(n) {
		return api.ErrAddress
	}
	if len(b) > api.FrameBytes {
		return api.ErrLong
	}
	copy(r.frames[n][:], b)
	return api.OK
}

// Clear makes a frame's bytes 0.
func (r *Ram) Clear(n int) api.Errno {
	if !r.has(n) {
		return api.ErrAddress
	}
	clear(r.frames[n][:])
	return api.OK
}
