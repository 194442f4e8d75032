package iommu

import (
	"math"
	"slices"
	"testing"

	"viceroy/api"
	"viceroy/pte"
	"viceroy/ram"
)

// The world that most tests begin with: a memory of 24 frames; the frame 1 is a table with these pages, and the frame 20 another one:
//
//	page  the table 1                               the table 20
//	0     the frame 10, read and write              the frame 14, read and write
//	1     the frame 11, read                        the frame 15, write
//	2     the frame 12, write                       none
//	3     the frame 13, exec                        none
//	4     the frame 10 again, no right              none
//	5     the frame 24, all: the first not there    none
//	6     the frame 1023, all: the last of all      none
//	7     the frame 23, all: the last that is       none
//	8     the frame 16, all: 0's entry too          the frame 17, all
//	9     none                                      none
//	10    an entry that is no leaf                  none
//	11    a half word that is no entry              none
//	1023  the frame 18, all                         none
//
// In the table 1 the pages 32 to 63 have no table, those of 64 to 95 one that is not there; a leaf stands where that of 96 to 127 should be, and no entry where that of 128 to 159 should be.
const (
	one    = 1
	two    = 20
	frames = 24
	all    = api.Read | api.Write | api.Exec
)

// farNumbers are no stream, no frame, no address and no entry; some would be one if they were cut to fewer bits, or multiplied.
var farNumbers = []int{-1, -2, -7, -8, -15, -16, -64, -65, -1024, -1 << 16, -1 << 31, -1 << 32, -1 << 58, math.MinInt, math.MinInt + 1, math.MinInt + 64, 1 << 16, 1<<16 + 1, 1 << 31, 1 << 32, 1<<32 + 1, 1<<32 + 3, 1 << 58, 1<<58 + 3, 1 << 62, 1<<63 - 64, math.MaxInt - 1, math.MaxInt}

func good(t *testing.T, errs ...api.Errno) {
	t.Helper()
	for n, e := range errs {
		if e != api.OK {
			t.Fatalf("call %d of %d: %v", n+1, len(errs), e)
		}
	}
}

func table(frame int) api.Entry { return api.Entry{Valid: true, Frame: frame} }

func leaf(frame, rights int) api.Entry {
	return api.Entry{Valid: true, Leaf: true, Rights: rights, Frame: frame}
}

// memory is the world's; each byte of the frames 10 to 23 but the tables tells where it is.
func memory(t *testing.T) *ram.Ram {
	t.Helper()
	r, e := ram.New(frames)
	good(t, e)
	good(t, pte.Put(r, one, 0, table(2)), pte.Put(r, one, 31, table(3)), pte.Put(r, one, 2, table(1000)), pte.Put(r, one, 3, leaf(12, all)), r.Store(64*one+2*4, 2, 0x21))
	for page, l := range map[int]api.Entry{0: leaf(10, 3), 1: leaf(11, 1), 2: leaf(12, 2), 3: leaf(13, 4), 4: leaf(10, 0), 5: leaf(24, all), 6: leaf(1023, all), 7: leaf(23, all), 8: leaf(16, all), 10: table(3)} {
		good(t, pte.Put(r, 2, page, l))
	}
	good(t, r.Store(64*2+2*11, 2, 0x23), pte.Put(r, 3, 31, leaf(18, all)))
	good(t, pte.Put(r, two, 0, table(21)), pte.Put(r, 21, 0, leaf(14, 3)), pte.Put(r, 21, 1, leaf(15, 2)), pte.Put(r, 21, 8, leaf(17, all)))
	for _, f := range []int{10, 11, 12, 13, 14, 15, 16, 17, 18, 23} {
		for k := range 64 {
			good(t, r.Store(64*f+k, 1, uint32(mark(f, k))))
		}
	}
	return r
}

// mark is what stands at first in a byte of a frame that is no table.
func mark(frame, k int) byte { return byte(frame*7 + k*3 + 1) }

// world has the stream 0 with the table 1 and the stream 5 with the table 20.
func world(t *testing.T) (*ram.Ram, *Iommu) {
	t.Helper()
	m := New()
	good(t, m.Attach(0, one), m.Attach(5, two))
	return memory(t), m
}

func bytesOf(t *testing.T, r *ram.Ram) []byte {
	t.Helper()
	var b []byte
	for n := range r.Frames() {
		f, e := r.Frame(n)
		good(t, e)
		b = append(b, f...)
	}
	return b
}

// reads is an access that goes through.
func reads(t *testing.T, m *Iommu, r *ram.Ram, stream, addr int, want byte) {
	t.Helper()
	if b, e := m.Dma(r, stream, addr, false, 99); b != want || e != api.OK {
		t.Errorf("stream %d reads %d: %d, %v; want %d", stream, addr, b, e, want)
	}
}

func writes(t *testing.T, m *Iommu, r *ram.Ram, stream, addr int, b byte) {
	t.Helper()
	if got, e := m.Dma(r, stream, addr, true, b); got != b || e != api.OK {
		t.Errorf("stream %d writes %d: %d, %v; want %d", stream, addr, got, e, b)
	}
}

// faults is an access that faults with the kind: the memory stays, and one record comes.
func faults(t *testing.T, m *Iommu, r *ram.Ram, stream, addr int, write bool, kind int) {
	t.Helper()
	before := bytesOf(t, r)
	for _, ok := m.Take(); ok; _, ok = m.Take() {
	}
	if b, e := m.Dma(r, stream, addr, write, 99); b != 0 || e != api.ErrFault {
		t.Errorf("stream %d, address %d, write %v: %d, %v; want a fault", stream, addr, write, b, e)
	}
	want := []api.Record{{Stream: stream, Page: addr / 64, Kind: kind, Write: write}}
	if l := m.Records(); !slices.Equal(l, want) {
		t.Errorf("records %v; want %v", l, want)
	}
	if !slices.Equal(bytesOf(t, r), before) {
		t.Errorf("stream %d, address %d, write %v: the fault changed the memory", stream, addr, write)
	}
}

func TestExamples(t *testing.T) {
	r, e := ram.New(8)
	good(t, e)
	good(t, pte.Put(r, 1, 0, table(2)), pte.Put(r, 2, 3, leaf(5, api.Read)), r.Store(64*5+1, 1, 77))
	m := New()
	faults(t, m, r, 0, 192, false, api.FaultMissing)
	good(t, m.Attach(0, 1))
	reads(t, m, r, 0, 193, 77)
	faults(t, m, r, 0, 193, true, api.FaultRights)
	good(t, pte.Put(r, 2, 3, api.Entry{}))
	reads(t, m, r, 0, 193, 77)
	if n := m.FlushPage(0, 3); n != 1 {
		t.Error("FlushPage:", n)
	}
	faults(t, m, r, 0, 193, false, api.FaultMissing)
	if e := m.Attach(16, 1); e != api.ErrStream {
		t.Error(e)
	}
	if e := m.Attach(0, 1024); e != api.ErrArg {
		t.Error(e)
	}
	if b, e := m.Dma(r, 0, 65536, false, 0); b != 0 || e != api.ErrArg {
		t.Error(b, e)
	}
}

func TestD1New(t *testing.T) {
	m := New()
	for stream := -1; stream <= 16; stream++ {
		if root := m.Root(stream); root != -1 {
			t.Errorf("stream %d: %d", stream, root)
		}
		if n := m.Flush(stream); n != 0 {
			t.Errorf("stream %d has %d entries", stream, n)
		}
	}
	if l := m.Records(); len(l) != 0 || m.Lost() != 0 {
		t.Error(l, m.Lost())
	}
	if x, ok := m.Take(); ok || x != (api.Record{}) {
		t.Error(x, ok)
	}
	r := memory(t)
	for stream := range 16 {
		faults(t, m, r, stream, 0, false, api.FaultMissing)
		faults(t, m, r, stream, 65535, true, api.FaultMissing)
	}
}

func TestD1AttachAndRoot(t *testing.T) {
	for _, stream := range []int{0, 1, 7, 15} {
		for _, root := range []int{0, 1, 500, 1023} {
			m := New()
			if e := m.Attach(stream, root); e != api.OK || m.Root(stream) != root {
				t.Errorf("Attach(%d, %d): %v, %d", stream, root, e, m.Root(stream))
			}
			for other := range 16 {
				if other != stream && m.Root(other) != -1 {
					t.Errorf("Attach(%d, %d) gave the stream %d one", stream, root, other)
				}
			}
			if e := m.Detach(stream); e != api.OK || m.Root(stream) != -1 {
				t.Errorf("Detach(%d): %v, %d", stream, e, m.Root(stream))
			}
		}
	}
}

func TestD1AttachErrors(t *testing.T) {
	m := New()
	good(t, m.Attach(0, 3), m.Attach(15, 4))
	noStreams := append([]int{16, 17, 1 << 8, 1 << 4, 32}, farNumbers...)
	noRoots := append([]int{1024, 1025, 2048}, farNumbers...)
	for _, stream := range noStreams {
		for _, root := range append([]int{0, 1, 1023}, noRoots...) {
			if e := m.Attach(stream, root); e != api.ErrStream {
				t.Errorf("Attach(%d, %d): %v", stream, root, e)
			}
		}
		if e := m.Detach(stream); e != api.ErrStream {
			t.Errorf("Detach(%d): %v", stream, e)
		}
		if root := m.Root(stream); root != -1 {
			t.Errorf("Root(%d): %d", stream, root)
		}
	}
	for _, root := range noRoots {
		for _, stream := range []int{0, 1, 15} {
			if e := m.Attach(stream, root); e != api.ErrArg {
				t.Errorf("Attach(%d, %d): %v", stream, root, e)
			}
		}
	}
	for stream := range 16 {
		want := map[int]int{0: 3, 15: 4}[stream]
		if want == 0 {
			want = -1
		}
		if root := m.Root(stream); root != want {
			t.Errorf("Root(%d): %d; want %d", stream, root, want)
		}
	}
}

// remembered fills entries of the streams 0 and 5, then takes the tables' entries away: what is still found, the buffer has.
func remembered(t *testing.T) (*ram.Ram, *Iommu) {
	t.Helper()
	r, m := world(t)
	reads(t, m, r, 0, 1*64, mark(11, 0))
	writes(t, m, r, 0, 7*64, mark(23, 0))
	reads(t, m, r, 5, 8*64+2, mark(17, 2))
	good(t, r.Clear(one), r.Clear(two))
	return r, m
}

func TestD1AttachForgetsThatStream(t *testing.T) {
	for _, root := range []int{one, two, 0} {
		r, m := remembered(t)
		good(t, m.Attach(0, root))
		reads(t, m, r, 5, 8*64+2, mark(17, 2))
		faults(t, m, r, 0, 64, false, api.FaultMissing)
		faults(t, m, r, 0, 7*64, false, api.FaultMissing)
		if n := m.Flush(5); n != 1 {
			t.Error("the other stream's:", n)
		}
	}
	r, m := remembered(t)
	good(t, m.Attach(5, two))
	reads(t, m, r, 0, 64, mark(11, 0))
	reads(t, m, r, 0, 7*64, mark(23, 0))
	faults(t, m, r, 5, 8*64+2, false, api.FaultMissing)
	// One that had no table has nothing to forget.
	good(t, m.Attach(3, one))
	reads(t, m, r, 0, 64, mark(11, 0))
}

func TestD1DetachForgetsThatStream(t *testing.T) {
	r, m := remembered(t)
	good(t, m.Detach(3), m.Detach(15)) // they have none
	reads(t, m, r, 0, 64, mark(11, 0))
	good(t, m.Detach(0))
	faults(t, m, r, 0, 64, false, api.FaultMissing)
	faults(t, m, r, 0, 7*64, true, api.FaultMissing)
	reads(t, m, r, 5, 8*64+2, mark(17, 2))
	good(t, m.Detach(0), m.Attach(0, one))
	if n := m.Flush(0); n != 0 {
		t.Error("it is still remembered:", n)
	}
	faults(t, m, r, 0, 64, false, api.FaultMissing)
	if m.Root(5) != two || m.Root(0) != one {
		t.Error(m.Root(5), m.Root(0))
	}
}

func TestD1RefusedAttachForgetsNothing(t *testing.T) {
	r, m := remembered(t)
	for _, n := range append([]int{1024, 2048}, farNumbers...) {
		if e := m.Attach(0, n); e != api.ErrArg {
			t.Errorf("Attach(0, %d): %v", n, e)
		}
		if e := m.Attach(n, one); e != api.ErrStream {
			t.Errorf("Attach(%d, 1): %v", n, e)
		}
		if e := m.Detach(n); e != api.ErrStream {
			t.Errorf("Detach(%d): %v", n, e)
		}
	}
	reads(t, m, r, 0, 64, mark(11, 0))
	reads(t, m, r, 5, 8*64+2, mark(17, 2))
	if m.Flush(0) != 2 || m.Flush(5) != 1 {
		t.Error("an entry went")
	}
}

func TestD2Errors(t *testing.T) {
	r, m := world(t)
	before := bytesOf(t, r)
	noAddresses := append([]int{65536, 65537, 65536 + 64, 1 << 17}, farNumbers...)
	for _, write := range []bool{false, true} {
		for _, stream := range append([]int{16, 17, 21, 32}, farNumbers...) {
			for _, addr := range append([]int{0, 1, 65535}, noAddresses...) {
				if b, e := m.Dma(r, stream, addr, write, 99); b != 0 || e != api.ErrStream {
					t.Errorf("Dma(%d, %d, %v): %d, %v", stream, addr, write, b, e)
				}
			}
		}
		for _, stream := range []int{0, 5, 3, 15} { // with and without a table
			for _, addr := range noAddresses {
				if b, e := m.Dma(r, stream, addr, write, 99); b != 0 || e != api.ErrArg {
					t.Errorf("Dma(%d, %d, %v): %d, %v", stream, addr, write, b, e)
				}
			}
		}
	}
	if len(m.Records()) != 0 || m.Lost() != 0 || m.Flush(0)+m.Flush(5) != 0 {
		t.Error("an error is no fault:", m.Records(), m.Lost())
	}
	if !slices.Equal(bytesOf(t, r), before) {
		t.Error("an error changed the memory")
	}
}

// outcome is what an access of a page of the table 1 comes to.
type outcome struct {
	page  int
	write bool
	frame int
	kind  int
}

func outcomes() []outcome {
	return []outcome{
		{0, false, 10, 0}, {0, true, 10, 0},
		{1, false, 11, 0}, {1, true, 0, api.FaultRights},
		{2, false, 0, api.FaultRights}, {2, true, 12, 0},
		{3, false, 0, api.FaultRights}, {3, true, 0, api.FaultRights},
		{4, false, 0, api.FaultRights}, {4, true, 0, api.FaultRights},
		{5, false, 0, api.FaultSize}, {5, true, 0, api.FaultSize},
		{6, false, 0, api.FaultSize}, {6, true, 0, api.FaultSize},
		{7, false, 23, 0}, {7, true, 23, 0},
		{8, false, 16, 0}, {8, true, 16, 0},
		{9, false, 0, api.FaultMissing}, {9, true, 0, api.FaultMissing},
		{10, false, 0, api.FaultMissing}, {10, true, 0, api.FaultMissing},
		{11, false, 0, api.FaultMissing}, {11, true, 0, api.FaultMissing},
		{32, false, 0, api.FaultMissing}, {63, true, 0, api.FaultMissing},
		{64, false, 0, api.FaultSize}, {95, true, 0, api.FaultSize},
		{96, false, 0, api.FaultMissing}, {127, true, 0, api.FaultMissing},
		{128, false, 0, api.FaultMissing}, {159, true, 0, api.FaultMissing},
		{1023, false, 18, 0}, {1023, true, 18, 0},
		{992, false, 0, api.FaultMissing}, {1022, true, 0, api.FaultMissing},
	}
}

func TestD2EachPage(t *testing.T) {
	for _, o := range outcomes() {
		for _, k := range []int{0, 1, 62, 63} {
			r, m := world(t)
			addr := 64*o.page + k
			if o.kind != 0 {
				// Twice: what faulted is not remembered as found.
				faults(t, m, r, 0, addr, o.write, o.kind)
				faults(t, m, r, 0, addr, o.write, o.kind)
				continue
			}
			want := bytesOf(t, r)
			if o.write {
				want[64*o.frame+k] = 201
				writes(t, m, r, 0, addr, 201)
			} else {
				reads(t, m, r, 0, addr, mark(o.frame, k))
			}
			if !slices.Equal(bytesOf(t, r), want) {
				t.Errorf("page %d, byte %d, write %v: the memory is not as it should be", o.page, k, o.write)
			}
			if len(m.Records()) != 0 || m.Lost() != 0 {
				t.Error("no fault is recorded:", m.Records())
			}
			if n := m.FlushPage(0, o.page); n != 1 {
				t.Errorf("page %d is remembered %d times", o.page, n)
			}
		}
	}
}

func TestD2EachByte(t *testing.T) {
	r, m := world(t)
	want := bytesOf(t, r)
	for k := range 64 {
		reads(t, m, r, 0, k, mark(10, k))
		want[64*10+k] = byte(255 - k)
		writes(t, m, r, 0, k, byte(255-k))
		reads(t, m, r, 0, k, byte(255-k))
		if !slices.Equal(bytesOf(t, r), want) {
			t.Fatalf("byte %d: another one was written", k)
		}
	}
	for b := range 256 {
		writes(t, m, r, 0, 65535, byte(b))
		reads(t, m, r, 0, 65535, byte(b))
	}
}

func TestD2RootEdges(t *testing.T) {
	r := memory(t)
	m := New()
	good(t, m.Attach(15, 0))
	faults(t, m, r, 15, 0, false, api.FaultMissing)
	good(t, pte.Put(r, 0, 0, table(2)))
	reads(t, m, r, 15, 3, mark(10, 3))
	for _, root := range []int{24, 1023} { // frames that this memory has not
		good(t, m.Attach(15, root))
		faults(t, m, r, 15, 3, false, api.FaultSize)
		faults(t, m, r, 15, 3, true, api.FaultSize)
	}
	big, e := ram.New(1024)
	good(t, e)
	good(t, pte.Put(big, 1023, 31, table(1022)), pte.Put(big, 1022, 31, leaf(1021, api.Write)))
	writes(t, m, big, 15, 65535, 8)
	if w, e := big.Load(1021*64+63, 1); w != 8 || e != api.OK {
		t.Error(w, e)
	}
}

// Rights are asked of the entry that is remembered; if it has them not, the table is asked anew.
func TestD2EntryWithoutTheRight(t *testing.T) {
	r, m := world(t)
	reads(t, m, r, 0, 64, mark(11, 0))
	faults(t, m, r, 0, 64, true, api.FaultRights)
	good(t, pte.Put(r, 2, 1, leaf(16, api.Write)))
	reads(t, m, r, 0, 64, mark(11, 0)) // the buffer still has the frame 11 with Read
	writes(t, m, r, 0, 64, 77)         // found by the table: the frame 16
	if w, _ := r.Load(64*16, 1); w != 77 {
		t.Error("the table is asked anew:", w)
	}
	faults(t, m, r, 0, 64, false, api.FaultRights) // the entry has the new rights: Write alone
	good(t, pte.Put(r, 2, 1, api.Entry{}))
	writes(t, m, r, 0, 65, 78)
	faults(t, m, r, 0, 64, false, api.FaultMissing)
	writes(t, m, r, 0, 66, 79)
	if n := m.Flush(0); n != 1 {
		t.Error(n)
	}
}

// A fault of the table leaves what the entry has: its own page, or another one, or one of another stream.
func TestD2FaultLeavesTheEntry(t *testing.T) {
	r, m := world(t)
	writes(t, m, r, 0, 2*64, 5)
	faults(t, m, r, 0, 2*64, false, api.FaultRights)
	faults(t, m, r, 0, 10*64, false, api.FaultMissing) // the same entry
	faults(t, m, r, 5, 2*64, false, api.FaultMissing)
	faults(t, m, r, 5, 2*64, true, api.FaultMissing)
	faults(t, m, r, 9, 2*64, true, api.FaultMissing) // a stream without a table
	good(t, r.Clear(one))
	writes(t, m, r, 0, 2*64, 6)
	if n := m.FlushPage(0, 2); n != 1 {
		t.Error(n)
	}
}

// A frame that is not there is a fault, by the table and by the buffer; the entry stays.
func TestD2FrameThatIsNotThere(t *testing.T) {
	for _, page := range []int{5, 6} {
		for _, write := range []bool{false, true} {
			r, m := world(t)
			faults(t, m, r, 0, 64*page+7, write, api.FaultSize)
			good(t, r.Clear(one))
			faults(t, m, r, 0, 64*page+7, write, api.FaultSize) // the table would say FaultMissing
			faults(t, m, r, 0, 64*page+7, !write, api.FaultSize)
			big, e := ram.New(1024)
			good(t, e)
			frame := 24
			if page == 6 {
				frame = 1023
			}
			good(t, big.Store(64*frame+7, 1, 44))
			reads(t, m, big, 0, 64*page+7, 44)
			faults(t, m, r, 0, 64*page+7, write, api.FaultSize)
			if n := m.FlushPage(0, page); n != 1 {
				t.Error("the entry stays:", n)
			}
			faults(t, m, r, 0, 64*page+7, write, api.FaultMissing)
		}
	}
}

// What the buffer has may lie outside a smaller memory.
func TestD2SmallerMemory(t *testing.T) {
	r, m := world(t)
	reads(t, m, r, 0, 0, mark(10, 0))
	for _, n := range []int{1, 9, 10} {
		small, e := ram.New(n)
		good(t, e)
		faults(t, m, small, 0, 0, false, api.FaultSize)
		faults(t, m, small, 0, 0, true, api.FaultSize)
	}
	small, e := ram.New(11)
	good(t, e)
	reads(t, m, small, 0, 0, 0)
	writes(t, m, small, 0, 63, 1)
	if w, e := small.Load(64*10+63, 1); w != 1 || e != api.OK {
		t.Error(w, e)
	}
	if n := m.Flush(0); n != 1 {
		t.Error(n)
	}
}

// Two pages of one entry, each in the other's place.
func TestD2TwoPagesOfOneEntry(t *testing.T) {
	r, m := world(t)
	for range 3 {
		reads(t, m, r, 0, 0, mark(10, 0))
		reads(t, m, r, 0, 8*64, mark(16, 0))
	}
	if n := m.FlushPage(0, 0); n != 0 {
		t.Error("8 is in its place:", n)
	}
	good(t, r.Clear(one))
	reads(t, m, r, 0, 8*64, mark(16, 0))
	faults(t, m, r, 0, 0, false, api.FaultMissing)
	reads(t, m, r, 0, 8*64, mark(16, 0))
	if n := m.Flush(0); n != 1 {
		t.Error(n)
	}
}

// One page of two streams, each in the other's place.
func TestD2OnePageOfTwoStreams(t *testing.T) {
	r, m := world(t)
	for range 3 {
		reads(t, m, r, 0, 0, mark(10, 0))
		reads(t, m, r, 5, 0, mark(14, 0))
	}
	if n := m.Flush(0); n != 0 {
		t.Error("5 is in its place:", n)
	}
	writes(t, m, r, 5, 64, 3)
	faults(t, m, r, 0, 64, true, api.FaultRights) // what the stream 5 may is not the stream 0's
	reads(t, m, r, 0, 64, mark(11, 0))
	faults(t, m, r, 5, 64, false, api.FaultRights)
	good(t, r.Clear(one), r.Clear(two))
	reads(t, m, r, 0, 64, mark(11, 0))
	faults(t, m, r, 5, 64, true, api.FaultMissing)
	reads(t, m, r, 5, 0, mark(14, 0))
	faults(t, m, r, 0, 0, false, api.FaultMissing)
	if m.Flush(0) != 1 || m.Flush(5) != 1 {
		t.Error("one entry each")
	}
}

// Streams of one table have entries of their own.
func TestD2StreamsOfOneTable(t *testing.T) {
	r, m := world(t)
	good(t, m.Attach(6, one))
	reads(t, m, r, 0, 64, mark(11, 0))
	good(t, r.Clear(one))
	faults(t, m, r, 6, 64, false, api.FaultMissing)
	reads(t, m, r, 0, 64, mark(11, 0))
}

func TestD2WhichEntry(t *testing.T) {
	r, e := ram.New(64)
	good(t, e)
	for i := range 32 {
		good(t, pte.Put(r, 1, i, table(2)), pte.Put(r, 2, i, leaf(10+i, api.Read)))
	}
	for page := range 1024 {
		m := New()
		good(t, m.Attach(2, 1))
		reads(t, m, r, 2, 64*page, 0)
		for at := range 8 {
			if at != page%8 {
				good(t, m.Evict(at))
			}
		}
		if n := m.Flush(2); n != 1 {
			t.Errorf("page %d is not in the entry %d", page, page%8)
		}
		reads(t, m, r, 2, 64*page, 0)
		good(t, m.Evict(page%8))
		if n := m.Flush(2); n != 0 {
			t.Errorf("page %d: the entry %d is not empty", page, page%8)
		}
	}
}

func TestD3Records(t *testing.T) {
	r := memory(t)
	for many := range 20 {
		m := New()
		good(t, m.Attach(0, one))
		var want []api.Record
		for i := range many {
			x := api.Record{Stream: i % 3, Page: 9 + 40*i, Kind: api.FaultMissing, Write: i%2 == 1}
			if i%5 == 3 {
				x = api.Record{Stream: 0, Page: 3, Kind: api.FaultRights, Write: i%2 == 1}
			}
			if i%5 == 4 {
				x = api.Record{Stream: 0, Page: 64 + i, Kind: api.FaultSize, Write: i%2 == 1}
			}
			if x.Stream == 0 && x.Kind == api.FaultMissing {
				x.Page = 32 + i
			}
			if b, e := m.Dma(r, x.Stream, 64*x.Page+i, x.Write, 1); b != 0 || e != api.ErrFault {
				t.Fatal(i, b, e)
			}
			if i < 8 {
				want = append(want, x)
			}
			if l := m.Records(); !slices.Equal(l, want) {
				t.Errorf("behind %d: %v; want %v", i+1, l, want)
			}
			if n := m.Lost(); n != max(0, i-7) {
				t.Errorf("behind %d %d are lost", i+1, n)
			}
		}
		for n, x := range want {
			if got, ok := m.Take(); got != x || !ok {
				t.Errorf("take %d: %v, %v; want %v", n, got, ok, x)
			}
			if l := m.Records(); !slices.Equal(l, want[n+1:]) {
				t.Errorf("behind take %d: %v", n, l)
			}
		}
		for range 2 {
			if x, ok := m.Take(); ok || x != (api.Record{}) {
				t.Error("nothing is left:", x, ok)
			}
		}
		if n := m.Lost(); n != max(0, many-8) {
			t.Errorf("of %d %d are lost", many, n)
		}
	}
}

// Room that Take makes is used again, behind those that wait.
func TestD3TakeMakesRoom(t *testing.T) {
	r, m := memory(t), New()
	page := 0
	var want []api.Record
	fault := func() {
		m.Dma(r, 4, 64*page, false, 0)
		want = append(want, api.Record{Stream: 4, Page: page, Kind: api.FaultMissing})
		page++
	}
	for range 8 {
		fault()
	}
	m.Dma(r, 4, 64*1000, false, 0)
	for n := range 100 {
		if x, ok := m.Take(); x != want[0] || !ok {
			t.Fatal(n, x, ok)
		}
		want = want[1:]
		fault()
		m.Dma(r, 4, 64*1001, true, 0)
		if !slices.Equal(m.Records(), want) || m.Lost() != n+2 {
			t.Fatal(n, m.Records(), m.Lost())
		}
	}
}

func TestD3NothingElseTouchesRecords(t *testing.T) {
	r, m := world(t)
	m.Dma(r, 9, 0, false, 0)
	m.Dma(r, 0, 64, true, 0)
	want := m.Records()
	m.Dma(r, 0, 64, false, 0)
	m.Dma(r, 16, 64, false, 0)
	m.Dma(r, 0, -1, false, 0)
	m.Attach(0, two)
	m.Detach(5)
	m.Flush(0)
	m.FlushPage(0, 1)
	m.Evict(1)
	m.Evict(9)
	m.Root(0)
	if !slices.Equal(m.Records(), want) || len(want) != 2 || m.Lost() != 0 {
		t.Error(m.Records(), m.Lost())
	}
}

func TestD4Flush(t *testing.T) {
	r, m := world(t)
	good(t, m.Attach(6, one))
	reads(t, m, r, 0, 0, mark(10, 0))
	reads(t, m, r, 0, 64, mark(11, 0))
	writes(t, m, r, 6, 2*64, 7)
	reads(t, m, r, 6, 7*64, mark(23, 0))
	faults(t, m, r, 0, 5*64, false, api.FaultSize) // it is remembered all the same
	for _, stream := range append([]int{1, 5, 15, 16}, farNumbers...) {
		if n := m.Flush(stream); n != 0 {
			t.Errorf("Flush(%d): %d", stream, n)
		}
	}
	good(t, r.Clear(one))
	if n := m.Flush(0); n != 3 {
		t.Error("Flush(0):", n)
	}
	for _, page := range []int{0, 1, 5} {
		faults(t, m, r, 0, 64*page, false, api.FaultMissing)
	}
	reads(t, m, r, 6, 7*64, mark(23, 0))
	writes(t, m, r, 6, 2*64, 8)
	if n := m.Flush(0); n != 0 {
		t.Error("again:", n)
	}
	if n := m.Flush(6); n != 2 {
		t.Error("Flush(6):", n)
	}
	if m.Root(0) != one || m.Root(6) != one {
		t.Error("a table went")
	}
}

func TestD4FlushAllEight(t *testing.T) {
	r, e := ram.New(64)
	good(t, e)
	good(t, pte.Put(r, 1, 0, table(2)))
	for i := range 32 {
		good(t, pte.Put(r, 2, i, leaf(10+i, api.Read)))
	}
	m := New()
	good(t, m.Attach(15, 1))
	for page := range 32 {
		reads(t, m, r, 15, 64*page, 0)
	}
	if n := m.Flush(15); n != 8 {
		t.Error(n)
	}
	if n := m.Flush(15); n != 0 {
		t.Error(n)
	}
}

func TestD4FlushPage(t *testing.T) {
	r, m := world(t)
	reads(t, m, r, 0, 64, mark(11, 0))
	reads(t, m, r, 0, 7*64, mark(23, 0))
	reads(t, m, r, 5, 0, mark(14, 0))
	good(t, r.Clear(one), r.Clear(two))
	for _, n := range append([]int{0, 2, 8, 9, 15, 16, 1023, 1024}, farNumbers...) { // 9 and 1 are of one entry
		if k := m.FlushPage(0, n); k != 0 {
			t.Errorf("FlushPage(0, %d): %d", n, k)
		}
	}
	for _, n := range append([]int{5, 6, 16}, farNumbers...) {
		if k := m.FlushPage(n, 1); k != 0 {
			t.Errorf("FlushPage(%d, 1): %d", n, k)
		}
	}
	if n := m.FlushPage(0, 1); n != 1 {
		t.Error(n)
	}
	if n := m.FlushPage(0, 1); n != 0 {
		t.Error("again:", n)
	}
	faults(t, m, r, 0, 64, false, api.FaultMissing)
	reads(t, m, r, 0, 7*64, mark(23, 0))
	reads(t, m, r, 5, 0, mark(14, 0))
	if n := m.FlushPage(5, 0); n != 1 {
		t.Error(n)
	}
	faults(t, m, r, 5, 0, false, api.FaultMissing)
	reads(t, m, r, 0, 7*64, mark(23, 0))
}

func TestD4Evict(t *testing.T) {
	for at := range 8 {
		r, m := world(t)
		reads(t, m, r, 0, 64, mark(11, 0))
		reads(t, m, r, 0, 7*64, mark(23, 0))
		reads(t, m, r, 5, 8*64, mark(17, 0))
		good(t, r.Clear(one), r.Clear(two))
		for _, n := range append([]int{8, 9, 15, 16}, farNumbers...) {
			if e := m.Evict(n); e != api.ErrArg {
				t.Errorf("Evict(%d): %v", n, e)
			}
		}
		good(t, m.Evict(at), m.Evict(at))
		if at == 1 {
			faults(t, m, r, 0, 64, false, api.FaultMissing)
		} else {
			reads(t, m, r, 0, 64, mark(11, 0))
		}
		if at == 7 {
			faults(t, m, r, 0, 7*64, false, api.FaultMissing)
		} else {
			reads(t, m, r, 0, 7*64, mark(23, 0))
		}
		if at == 0 {
			faults(t, m, r, 5, 8*64, false, api.FaultMissing)
		} else {
			reads(t, m, r, 5, 8*64, mark(17, 0))
		}
	}
}

func TestR1AnyNumbers(t *testing.T) {
	r, m := world(t)
	nums := append([]int{0, 1, 7, 8, 15, 16, 1023, 1024, 65535, 65536}, farNumbers...)
	for _, a := range nums {
		m.Root(a)
		m.Flush(a)
		m.Evict(a)
		for _, b := range nums {
			m.FlushPage(a, b)
			m.Dma(r, a, b, false, 0)
			m.Dma(r, a, b, true, 1)
			m.Attach(a, b)
		}
		m.Detach(a)
	}
}

func TestR5RecordsAreNobodyElses(t *testing.T) {
	r, m := memory(t), New()
	var want []api.Record
	for i := range 6 {
		m.Dma(r, i, 64*i, true, 0)
		want = append(want, api.Record{Stream: i, Page: i, Kind: api.FaultMissing, Write: true})
	}
	// What is done to a list that was told is not seen.
	told := m.Records()
	for i := range told {
		told[i] = api.Record{Stream: 77}
	}
	_ = append(told, api.Record{Stream: 78})
	if l := m.Records(); !slices.Equal(l, want) {
		t.Error("what was told is kept:", l)
	}
	// What comes behind it does not change it.
	told = m.Records()
	longer := append(m.Records(), api.Record{Stream: 79})
	for range 3 {
		m.Take()
	}
	for i := range 5 {
		m.Dma(r, i, 64*(i+100), false, 0)
	}
	if !slices.Equal(told, want) || !slices.Equal(longer[:6], want) || longer[6] != (api.Record{Stream: 79}) {
		t.Error("a list that was told changed:", told, longer)
	}
}

func TestR6TwoAreTwo(t *testing.T) {
	r := memory(t)
	a, b := New(), New()
	good(t, a.Attach(0, one))
	if b.Root(0) != -1 {
		t.Error(b.Root(0))
	}
	reads(t, a, r, 0, 64, mark(11, 0))
	faults(t, b, r, 0, 64, false, api.FaultMissing)
	if b.Flush(0) != 0 || len(a.Records()) != 0 {
		t.Error("they share something")
	}
	good(t, b.Attach(0, two), b.Evict(1))
	good(t, r.Clear(one))
	reads(t, a, r, 0, 64, mark(11, 0))
}
