package ram

import (
	"bytes"
	"math"
	"testing"

	"viceroy/api"
)

// farNumbers are no frame and no address of any memory.
var farNumbers = []int{-1, -2, -4, -63, -64, -65, -128, 1 << 16, 1<<32 - 4, 1 << 32, 1 << 62, math.MaxInt, math.MaxInt - 3, math.MinInt, math.MinInt + 1}

func made(t *testing.T, frames int) *Ram {
	t.Helper()
	r, e := New(frames)
	if r == nil || e != api.OK {
		t.Fatalf("New(%d): %v, %v", frames, r, e)
	}
	return r
}

// filled has bytes that are all but 0, and differ from frame to frame.
func filled(t *testing.T, frames int) *Ram {
	t.Helper()
	r := made(t, frames)
	for n := range frames {
		b := make([]byte, api.FrameBytes)
		for k := range b {
			b[k] = byte(1 + (n*api.FrameBytes+k*7)%251)
		}
		if e := r.Lay(n, b...); e != api.OK {
			t.Fatal(n, e)
		}
	}
	return r
}

// whole is all bytes, one frame behind the other.
func whole(t *testing.T, r *Ram) []byte {
	t.Helper()
	var all []byte
	for n := range r.Frames() {
		b, e := r.Frame(n)
		if e != api.OK || len(b) != api.FrameBytes {
			t.Fatalf("Frame(%d): %d bytes, %v", n, len(b), e)
		}
		all = append(all, b...)
	}
	return all
}

func same(t *testing.T, r *Ram, want []byte, after ...any) {
	t.Helper()
	if !bytes.Equal(whole(t, r), want) {
		t.Errorf("other bytes than expected, after %v", after)
	}
}

// number is what the document says that bytes are, worked out another way than the program does.
func number(b []byte) uint32 {
	w := uint32(0)
	for i := len(b) - 1; i >= 0; i-- {
		w = w*256 + uint32(b[i])
	}
	return w
}

func TestM1NewAndFrames(t *testing.T) {
	for _, n := range []int{1, 2, 3, 63, 64, 65, 1023, 1024} {
		r := made(t, n)
		if r.Frames() != n {
			t.Errorf("New(%d).Frames() = %d", n, r.Frames())
		}
		same(t, r, make([]byte, n*api.FrameBytes), "New", n)
	}
	wrong := append([]int{0, 1025, 1026, 2048, 1<<32 + 1}, farNumbers...)
	for _, n := range wrong {
		if r, e := New(n); r != nil || e != api.ErrArg {
			t.Errorf("New(%d): %v, %v", n, r, e)
		}
	}
}

func TestM1MemoriesAreApart(t *testing.T) {
	a, b := made(t, 2), made(t, 2)
	a.Store(0, 4, 0xffffffff)
	a.Lay(1, 1, 2, 3)
	same(t, b, make([]byte, 2*api.FrameBytes), "changes to another memory")
}

// Which error comes first: size, then alignment, then the address.
func TestM2M3Errors(t *testing.T) {
	end := 3 * api.FrameBytes
	cases := []struct {
		addr, size int
		want       api.Errno
	}{
		{0, 0, api.ErrArg}, {0, 3, api.ErrArg}, {0, 5, api.ErrArg}, {0, 8, api.ErrArg}, {0, 64, api.ErrArg},
		{0, -1, api.ErrArg}, {0, -2, api.ErrArg}, {0, -4, api.ErrArg}, {0, math.MaxInt, api.ErrArg}, {0, math.MinInt, api.ErrArg},
		{0, 1<<32 + 1, api.ErrArg}, {0, 1<<32 + 4, api.ErrArg},
		{3, 3, api.ErrArg}, {1, 8, api.ErrArg}, {end, 0, api.ErrArg}, {-1, 0, api.ErrArg}, {math.MinInt, -1, api.ErrArg}, {math.MaxInt, 3, api.ErrArg},
		{1, 2, api.ErrAlign}, {1, 4, api.ErrAlign}, {2, 4, api.ErrAlign}, {3, 4, api.ErrAlign}, {63, 2, api.ErrAlign}, {62, 4, api.ErrAlign},
		{end - 1, 2, api.ErrAlign}, {end - 2, 4, api.ErrAlign}, {end + 1, 2, api.ErrAlign}, {end + 2, 4, api.ErrAlign},
		{-1, 2, api.ErrAlign}, {-1, 4, api.ErrAlign}, {-2, 4, api.ErrAlign}, {-3, 4, api.ErrAlign},
		{math.MaxInt, 2, api.ErrAlign}, {math.MaxInt, 4, api.ErrAlign}, {math.MinInt + 1, 2, api.ErrAlign}, {math.MinInt + 2, 4, api.ErrAlign},
		{end, 1, api.ErrAddress}, {end, 2, api.ErrAddress}, {end, 4, api.ErrAddress}, {end + 64, 1, api.ErrAddress}, {1024 * 64, 1, api.ErrAddress},
		{-1, 1, api.ErrAddress}, {-2, 2, api.ErrAddress}, {-4, 4, api.ErrAddress}, {-64, 4, api.ErrAddress},
		{math.MaxInt, 1, api.ErrAddress}, {math.MaxInt - 1, 2, api.ErrAddress}, {math.MaxInt - 3, 4, api.ErrAddress},
		{math.MinInt, 1, api.ErrAddress}, {math.MinInt, 2, api.ErrAddress}, {math.MinInt, 4, api.ErrAddress},
		{1 << 32, 1, api.ErrAddress}, {1 << 32, 4, api.ErrAddress}, {1 << 62, 4, api.ErrAddress},
	}
	r := filled(t, 3)
	before := whole(t, r)
	for _, c := range cases {
		if w, e := r.Load(c.addr, c.size); w != 0 || e != c.want {
			t.Errorf("Load(%d, %d): %#x, %v, not 0, %v", c.addr, c.size, w, e, c.want)
		}
		if e := r.Store(c.addr, c.size, 0); e != c.want {
			t.Errorf("Store(%d, %d, 0): %v, not %v", c.addr, c.size, e, c.want)
		}
	}
	same(t, r, before, "wrong loads and stores")
}

// Every size, and the sizes around these, at every address around the memory.
func TestM2LoadEverywhere(t *testing.T) {
	for _, frames := range []int{1, 2, 5} {
		r := filled(t, frames)
		all := whole(t, r)
		for size := -5; size <= 9; size++ {
			for addr := -10; addr < len(all)+10; addr++ {
				w, e := r.Load(addr, size)
				want, wantE := uint32(0), api.OK
				switch {
				case size != 1 && size != 2 && size != 4:
					wantE = api.ErrArg
				case (addr+16)%size != 0:
					wantE = api.ErrAlign
				case addr < 0 || addr+size > len(all):
					wantE = api.ErrAddress
				default:
					want = number(all[addr : addr+size])
				}
				if w != want || e != wantE {
					t.Fatalf("%d frames: Load(%d, %d): %#x, %v, not %#x, %v", frames, addr, size, w, e, want, wantE)
				}
			}
		}
		same(t, r, all, "loads")
	}
}

func TestM2M3FirstAndLast(t *testing.T) {
	for _, frames := range []int{1, 2, api.MaxFrames} {
		r := made(t, frames)
		for _, size := range []int{1, 2, 4} {
			last := frames*api.FrameBytes - size
			low := uint32(0x8badf00d) & uint32(1<<(8*size)-1)
			for _, addr := range []int{0, last} {
				if e := r.Store(addr, size, 0x8badf00d); e != api.OK {
					t.Errorf("Store(%d, %d): %v", addr, size, e)
				}
				if w, e := r.Load(addr, size); w != low || e != api.OK {
					t.Errorf("Load(%d, %d): %#x, %v", addr, size, w, e)
				}
			}
			for _, addr := range []int{-size, last + size} {
				if w, e := r.Load(addr, size); w != 0 || e != api.ErrAddress {
					t.Errorf("Load(%d, %d): %#x, %v", addr, size, w, e)
				}
				if e := r.Store(addr, size, 1); e != api.ErrAddress {
					t.Errorf("Store(%d, %d): %v", addr, size, e)
				}
			}
		}
	}
}

// Only the lowest bytes of the number, the lowest first, and nothing beside them.
func TestM3StoreEverywhere(t *testing.T) {
	r := filled(t, 3)
	want := whole(t, r)
	for _, size := range []int{4, 2, 1} {
		for addr := 0; addr < len(want); addr += size {
			w := 0xa1b2c3d4 + uint32(addr)*0x01030507
			if e := r.Store(addr, size, w); e != api.OK {
				t.Fatalf("Store(%d, %d): %v", addr, size, e)
			}
			for i := range size {
				want[addr+i] = byte(w / uint32(1<<(8*i)))
			}
			same(t, r, want, "Store", addr, size)
		}
	}
	for _, w := range []uint32{0, 1, 0x7fffffff, 0x80000000, 0xffffffff} {
		r.Store(8, 4, w)
		if got, e := r.Load(8, 4); got != w || e != api.OK {
			t.Errorf("%#x was stored, %#x loaded, %v", w, got, e)
		}
	}
}

func TestM4Frame(t *testing.T) {
	r := made(t, 3)
	for addr := range 3 * api.FrameBytes {
		r.Store(addr, 1, uint32(addr+5))
	}
	for n := range 3 {
		b, e := r.Frame(n)
		if e != api.OK || len(b) != api.FrameBytes {
			t.Fatal(n, b, e)
		}
		for k, x := range b {
			if x != byte(n*api.FrameBytes+k+5) {
				t.Errorf("frame %d, byte %d: %d", n, k, x)
			}
		}
	}
	for _, n := range append([]int{3, 4, 1024, 3 * 64}, farNumbers...) {
		if b, e := r.Frame(n); len(b) != 0 || e != api.ErrAddress {
			t.Errorf("Frame(%d): %v, %v", n, b, e)
		}
	}
}

func TestM4Lay(t *testing.T) {
	for _, many := range []int{0, 1, 2, 63, 64} {
		for n := range 3 {
			r := filled(t, 3)
			want := whole(t, r)
			b := bytes.Repeat([]byte{0, 255, 128}, 22)[:many]
			copy(want[n*api.FrameBytes:], b)
			if e := r.Lay(n, b...); e != api.OK {
				t.Errorf("Lay(%d) of %d bytes: %v", n, many, e)
			}
			same(t, r, want, "Lay", n, many)
		}
	}
}

// A frame that is not there is told ahead of bytes that are too many.
func TestM4LayErrors(t *testing.T) {
	r := filled(t, 3)
	before := whole(t, r)
	for _, many := range []int{65, 66, 128, 5000} {
		for n := range 3 {
			if e := r.Lay(n, make([]byte, many)...); e != api.ErrLong {
				t.Errorf("Lay(%d) of %d bytes: %v", n, many, e)
			}
		}
	}
	for _, n := range append([]int{3, 4, 1024}, farNumbers...) {
		for _, many := range []int{0, 1, 64, 65} {
			if e := r.Lay(n, make([]byte, many)...); e != api.ErrAddress {
				t.Errorf("Lay(%d) of %d bytes: %v", n, many, e)
			}
		}
	}
	same(t, r, before, "wrong Lays")
}

func TestM4Clear(t *testing.T) {
	for n := range 3 {
		r := filled(t, 3)
		want := whole(t, r)
		copy(want[n*api.FrameBytes:], make([]byte, api.FrameBytes))
		for range 2 {
			if e := r.Clear(n); e != api.OK {
				t.Errorf("Clear(%d): %v", n, e)
			}
			same(t, r, want, "Clear", n)
		}
	}
	r := filled(t, 3)
	before := whole(t, r)
	for _, n := range append([]int{3, 4, 1024, 64}, farNumbers...) {
		if e := r.Clear(n); e != api.ErrAddress {
			t.Errorf("Clear(%d): %v", n, e)
		}
	}
	same(t, r, before, "wrong Clears")
}

// What is stored in one size is loaded in every other one, byte for byte.
func TestM5Sizes(t *testing.T) {
	const base = 60
	given := []byte{0x80, 0x01, 0xfe, 0x7f}
	for _, by := range []int{1, 2, 4} {
		r := filled(t, 2)
		want := whole(t, r)
		copy(want[base:], given)
		for k := 0; k < 4; k += by {
			r.Store(base+k, by, number(given[k:k+by]))
		}
		same(t, r, want, "stores of size", by)
		for _, as := range []int{1, 2, 4} {
			for k := 0; k < 4; k += as {
				if w, e := r.Load(base+k, as); w != number(given[k:k+as]) || e != api.OK {
					t.Errorf("stored by %d, Load(%d, %d): %#x, %v", by, base+k, as, w, e)
				}
			}
		}
	}
}

// A long row of calls against a plain list of bytes.
func TestM5AgainstPlainBytes(t *testing.T) {
	const frames = 4
	r := made(t, frames)
	plain := make([]byte, frames*api.FrameBytes)
	state := uint32(12345)
	next := func(below int) int {
		state = state*1664525 + 1013904223
		return int(state>>8) % below
	}
	for step := range 5000 {
		n := next(frames)
		part := plain[n*api.FrameBytes : (n+1)*api.FrameBytes]
		switch next(8) {
		case 0:
			r.Clear(n)
			copy(part, make([]byte, api.FrameBytes))
		case 1:
			b := make([]byte, next(api.FrameBytes+1))
			for i := range b {
				b[i] = byte(next(256))
			}
			r.Lay(n, b...)
			copy(part, b)
		default:
			size := []int{1, 2, 4}[next(3)]
			k := next(api.FrameBytes/size) * size
			w := uint32(next(1<<16))<<16 | uint32(next(1<<16))
			r.Store(n*api.FrameBytes+k, size, w)
			for i := range size {
				part[k+i] = byte(w >> (8 * i))
			}
		}
		same(t, r, plain, "step", step)
		if t.Failed() {
			return
		}
	}
}

func TestR4NilAndEmptyBytes(t *testing.T) {
	r := filled(t, 1)
	before := whole(t, r)
	if a, b, c := r.Lay(0), r.Lay(0, nil...), r.Lay(0, []byte{}...); a != api.OK || b != api.OK || c != api.OK {
		t.Error(a, b, c)
	}
	same(t, r, before, "Lay of nothing")
}

func TestR5NothingIsShared(t *testing.T) {
	r := filled(t, 2)
	given := bytes.Repeat([]byte{77}, api.FrameBytes)
	r.Lay(0, given...)
	r.Store(0, 4, 0)
	r.Clear(0)
	if !bytes.Equal(given, bytes.Repeat([]byte{77}, api.FrameBytes)) {
		t.Error("what was handed in was changed")
	}
	r.Lay(0, given...)
	before := whole(t, r)
	for i := range given {
		given[i] = 9
	}
	same(t, r, before, "a change of what was handed in")

	first, _ := r.Frame(1)
	second, _ := r.Frame(1)
	kept := bytes.Clone(first)
	for i := range second {
		second[i] ^= 255
	}
	_ = append(second, 1, 2, 3)
	same(t, r, before, "a change of what was answered")
	if !bytes.Equal(first, kept) {
		t.Error("two answers share memory")
	}
	r.Clear(1)
	r.Store(64, 4, 1)
	if !bytes.Equal(first, kept) {
		t.Error("an answer changes with the memory")
	}
}

// The document's table of examples.
func TestExamples(t *testing.T) {
	r := made(t, 2)
	if e := r.Store(4, 4, 0x11223344); e != api.OK {
		t.Error(e)
	}
	if e := r.Store(126, 2, 0x1ffff); e != api.OK {
		t.Error(e)
	}
	for _, x := range []struct {
		addr, size int
		w          uint32
		e          api.Errno
	}{
		{4, 1, 0x44, api.OK}, {6, 2, 0x1122, api.OK}, {4, 4, 0x11223344, api.OK},
		{127, 1, 255, api.OK}, {128, 1, 0, api.ErrAddress}, {126, 4, 0, api.ErrAlign},
		{3, 3, 0, api.ErrArg}, {-4, 4, 0, api.ErrAddress}, {-1, 2, 0, api.ErrAlign}, {124, 4, 0xffff0000, api.OK},
	} {
		if w, e := r.Load(x.addr, x.size); w != x.w || e != x.e {
			t.Errorf("Load(%d, %d): %#x, %v", x.addr, x.size, w, e)
		}
	}
	if e := r.Lay(1, 9, 8); e != api.OK {
		t.Error(e)
	}
	if b, e := r.Frame(1); e != api.OK || b[0] != 9 || b[1] != 8 || b[2] != 0 || b[63] != 255 {
		t.Error(b, e)
	}
	if e := r.Clear(1); e != api.OK {
		t.Error(e)
	}
	if w, e := r.Load(64, 1); w != 0 || e != api.OK {
		t.Error(w, e)
	}
	if e := r.Lay(2); e != api.ErrAddress {
		t.Error(e)
	}
}
