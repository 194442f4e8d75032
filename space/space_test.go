package space

import (
	"math"
	"reflect"
	"slices"
	"testing"

	"viceroy/api"
	"viceroy/iommu"
	"viceroy/pte"
	"viceroy/ram"
	"viceroy/tlb"
	"viceroy/walk"
)

// frames is how many the world's memory has: fewer than a page may say.
const frames = 64

// far are no space, no page, no frame, no rights and no stream; some would be one if they were cut to fewer bits, or multiplied.
var far = []int{-1, -2, -16, -32, -1023, -1024, -1 << 16, -1 << 31, -1 << 32, -1 << 58, math.MinInt, math.MinInt + 1, math.MinInt + 3, 1024, 1025, 1 << 16, 1<<16 + 1, 1 << 31, 1 << 32, 1<<32 + 1, 1<<32 + 3, 1 << 58, 1<<58 + 3, 1 << 62, math.MaxInt - 1, math.MaxInt}

// world is the spaces, and what they are made of. At first no byte of the memory is 0.
type world struct {
	t *testing.T
	r *ram.Ram
	b *tlb.Tlb
	m *iommu.Iommu
	s *Spaces
}

func newWorld(t *testing.T) *world {
	t.Helper()
	r, e := ram.New(frames)
	if e != api.OK {
		t.Fatal(e)
	}
	for n := range frames {
		for k := range 64 {
			r.Store(64*n+k, 1, uint32(mark(n, k)))
		}
	}
	w := &world{t: t, r: r, b: tlb.New(), m: iommu.New()}
	if w.s = New(r, w.b, w.m); w.s == nil {
		t.Fatal("no spaces")
	}
	return w
}

// mark is what stands at first in a byte of a frame.
func mark(frame, k int) byte { return byte(frame*7+k*3)%255 + 1 }

// builtWorld has two spaces, and a third one without any table:
//
//	the space 1: the root 4; the table 6 at the index 0, the table 7 at 31
//	  the pages 3 (frame 9, rights 3), 5 (frame 10, rights 1), 1023 (frame 9, rights 4), 992 (frame 1000, rights 7)
//	the space 2: the root 5; the table 8 at the index 0
//	  the pages 3 (frame 10, rights 2), 0 (frame 11, rights 7)
//	the space 3: the root 12
//
// The streams 0 and 7 have the space 1, the stream 15 the space 2.
func builtWorld(t *testing.T) *world {
	t.Helper()
	w := newWorld(t)
	w.assigns(4, 1)
	w.assigns(5, 2)
	w.assigns(12, 3)
	w.good(w.s.MapTable(1, 0, 6), w.s.MapTable(1, 1000, 7), w.s.MapTable(2, 31, 8))
	w.good(w.s.Map(1, 1023, 9, 4), w.s.Map(1, 3, 9, 3), w.s.Map(1, 992, 1000, 7), w.s.Map(1, 5, 10, 1))
	w.good(w.s.Map(2, 3, 10, 2), w.s.Map(2, 0, 11, 7))
	w.good(w.s.Attach(0, 1), w.s.Attach(15, 2), w.s.Attach(7, 1))
	return w
}

func (w *world) good(errs ...api.Errno) {
	w.t.Helper()
	for n, e := range errs {
		if e != api.OK {
			w.t.Fatalf("call %d of %d: %v", n+1, len(errs), e)
		}
	}
}

func (w *world) assigns(table, want int) {
	w.t.Helper()
	if vmid, e := w.s.Assign(table); vmid != want || e != api.OK {
		w.t.Fatalf("Assign(%d): %d, %v; want %d", table, vmid, e, want)
	}
}

func (w *world) bytes() []byte {
	w.t.Helper()
	var b []byte
	for n := range w.r.Frames() {
		f, e := w.r.Frame(n)
		w.good(e)
		b = append(b, f...)
	}
	return b
}

// told is all that can be seen without a change.
type told struct {
	Roots, Spaces, Devices map[int]int
	Maps                   []api.Mapping
	Tables                 []int
	Bytes                  []byte
	Lines                  []api.Line
	Records                []api.Record
}

func (w *world) told() told {
	w.t.Helper()
	x := told{Roots: map[int]int{}, Spaces: map[int]int{}, Devices: map[int]int{}}
	for n := -1; n <= 17; n++ {
		x.Roots[n], x.Spaces[n], x.Devices[n] = w.s.Root(n), w.s.Space(n), w.m.Root(n)
		x.Maps = append(x.Maps, w.s.Mappings(n)...)
	}
	x.Tables, x.Bytes, x.Lines, x.Records = w.s.Tables(), w.bytes(), w.b.Lines(), w.m.Records()
	return x
}

// fails is a call that tells an error, and changes nothing.
func (w *world) fails(name string, want api.Errno, call func() api.Errno) {
	w.t.Helper()
	before := w.told()
	if e := call(); e != want {
		w.t.Errorf("%s: %v; want %v", name, e, want)
	}
	if !reflect.DeepEqual(w.told(), before) {
		w.t.Errorf("%s: an error changed something", name)
	}
}

func (w *world) failsAssign(table int, want api.Errno) {
	w.t.Helper()
	w.fails("Assign", want, func() api.Errno {
		vmid, e := w.s.Assign(table)
		if vmid != 0 {
			w.t.Errorf("Assign(%d) tells the space %d beside an error", table, vmid)
		}
		return e
	})
}

func (w *world) failsFree(vmid int, want api.Errno) {
	w.t.Helper()
	w.fails("Free", want, func() api.Errno { return w.s.Free(vmid) })
}

func (w *world) failsMapTable(vmid, page, table int, want api.Errno) {
	w.t.Helper()
	w.fails("MapTable", want, func() api.Errno { return w.s.MapTable(vmid, page, table) })
}

func (w *world) failsUnmapTable(vmid, page int, want api.Errno) {
	w.t.Helper()
	w.fails("UnmapTable", want, func() api.Errno { return w.s.UnmapTable(vmid, page) })
}

func (w *world) failsMap(vmid, page, frame, rights int, want api.Errno) {
	w.t.Helper()
	w.fails("Map", want, func() api.Errno { return w.s.Map(vmid, page, frame, rights) })
}

func (w *world) failsUnmap(vmid, page int, want api.Errno) {
	w.t.Helper()
	w.fails("Unmap", want, func() api.Errno { return w.s.Unmap(vmid, page) })
}

func (w *world) failsAttach(stream, vmid int, want api.Errno) {
	w.t.Helper()
	w.fails("Attach", want, func() api.Errno { return w.s.Attach(stream, vmid) })
}

func (w *world) failsDetach(stream int, want api.Errno) {
	w.t.Helper()
	w.fails("Detach", want, func() api.Errno { return w.s.Detach(stream) })
}

func (w *world) maps(vmid int, want ...api.Mapping) {
	w.t.Helper()
	if l := w.s.Mappings(vmid); !slices.Equal(l, want) {
		w.t.Errorf("Mappings(%d): %v; want %v", vmid, l, want)
	}
}

func (w *world) where(frame int, want ...api.Mapping) {
	w.t.Helper()
	if l := w.s.Where(frame); !slices.Equal(l, want) {
		w.t.Errorf("Where(%d): %v; want %v", frame, l, want)
	}
}

func (w *world) tables(want ...int) {
	w.t.Helper()
	if l := w.s.Tables(); !slices.Equal(l, want) {
		w.t.Errorf("Tables: %v; want %v", l, want)
	}
}

// changed are the frames whose bytes are not what they were.
func (w *world) changed(before []byte) []int {
	w.t.Helper()
	var l []int
	for n := range frames {
		if f, _ := w.r.Frame(n); !slices.Equal(f, before[64*n:64*n+64]) {
			l = append(l, n)
		}
	}
	return l
}

// changes does a call, and asks whether just these frames have other bytes.
func (w *world) changes(call func() api.Errno, want ...int) {
	w.t.Helper()
	before := w.bytes()
	w.good(call())
	if l := w.changed(before); !slices.Equal(l, want) {
		w.t.Errorf("the frames %v were changed; want %v", l, want)
	}
}

func (w *world) half(frame, i int) uint32 {
	w.t.Helper()
	x, e := w.r.Load(64*frame+2*i, 2)
	w.good(e)
	return x
}

// fill lets both buffers remember pages of the spaces 1 and 2 as the built world has them: of the space 1 four lines, and two of its streams; of the space 2 two, and one.
func (w *world) fill() {
	w.t.Helper()
	for at, l := range []api.Line{{Vmid: 1, Asid: 0, Page: 3}, {Vmid: 1, Asid: 15, Page: 3}, {Vmid: 2, Asid: 0, Page: 3}, {Vmid: 1, Asid: 2, Page: 5}, {Vmid: 2, Asid: 2, Page: 0}, {Vmid: 1, Asid: 0, Page: 992}} {
		frame, rights, f := walk.Single(w.r, w.s.Root(l.Vmid), l.Page)
		if f != (api.Fault{}) {
			w.t.Fatal(l, f)
		}
		l.Frame, l.Rights = frame, rights
		w.good(w.b.Fill(at, l))
	}
	for _, x := range []struct{ stream, page int }{{0, 3}, {7, 5}, {15, 0}} {
		if _, e := w.m.Dma(w.r, x.stream, 64*x.page, x.stream == 15, mark(11, 0)); e != api.OK {
			w.t.Fatal(x, e)
		}
	}
}

// remembered tells what the first buffer has of a space, and the second one of streams, of which it then has nothing.
func (w *world) remembered(vmid int, streams ...int) (lines, devices int) {
	for _, l := range w.b.Lines() {
		if l.Vmid == vmid {
			lines++
		}
	}
	for _, stream := range streams {
		devices += w.m.Flush(stream)
	}
	return lines, devices
}

// knows asks how many lines of the space 1, of its streams, of the space 2, and of its stream, are remembered still.
func (w *world) knows(lines1, devices1, lines2, devices2 int) {
	w.t.Helper()
	if l, d := w.remembered(1, 0, 7); l != lines1 || d != devices1 {
		w.t.Errorf("of the space 1 %d, %d are remembered; want %d, %d", l, d, lines1, devices1)
	}
	if l, d := w.remembered(2, 15); l != lines2 || d != devices2 {
		w.t.Errorf("of the space 2 %d, %d are remembered; want %d, %d", l, d, lines2, devices2)
	}
}

func (w *world) reaches(sp api.Space, page, want, frame int) {
	w.t.Helper()
	if n, f := walk.Reach(w.r, w.b, sp, page, want, page%8); n != frame || f != (api.Fault{}) {
		w.t.Errorf("page %d of %+v: %d, %+v; want %d", page, sp, n, f, frame)
	}
}

func (w *world) faults(sp api.Space, page, want int, fault api.Fault) {
	w.t.Helper()
	if n, f := walk.Reach(w.r, w.b, sp, page, want, page%8); n != 0 || f != fault {
		w.t.Errorf("page %d of %+v: %d, %+v; want %+v", page, sp, n, f, fault)
	}
}

func (w *world) dma(stream, page int, write bool, want api.Errno) {
	w.t.Helper()
	if _, e := w.m.Dma(w.r, stream, 64*page, write, 77); e != want {
		w.t.Errorf("stream %d at page %d, write %v: %v; want %v", stream, page, write, e, want)
	}
}

func TestExamples(t *testing.T) {
	w := newWorld(t)
	w.assigns(4, 1)
	w.failsAssign(4, api.ErrTable)
	w.assigns(5, 2)
	w.failsMap(1, 3, 9, 3, api.ErrTable)
	w.good(w.s.MapTable(1, 3, 6), w.s.Map(1, 3, 9, 3))
	w.failsMap(1, 3, 8, 3, api.ErrMapped)
	w.failsMapTable(1, 31, 7, api.ErrMapped)
	w.good(w.s.MapTable(1, 32, 7))
	w.failsMap(1, 40, 6, 1, api.ErrTable)
	w.maps(1, api.Mapping{Vmid: 1, Page: 3, Frame: 9, Rights: 3})
	w.where(9, api.Mapping{Vmid: 1, Page: 3, Frame: 9, Rights: 3})
	w.good(w.s.UnmapTable(1, 0))
	w.maps(1)
	w.failsUnmap(1, 3, api.ErrUnmapped)
}

func TestG1NewOfNil(t *testing.T) {
	r, e := ram.New(1)
	if e != api.OK {
		t.Fatal(e)
	}
	for n := range 8 {
		memory, buffer, devices := r, tlb.New(), iommu.New()
		if n&1 != 0 {
			memory = nil
		}
		if n&2 != 0 {
			buffer = nil
		}
		if n&4 != 0 {
			devices = nil
		}
		if s := New(memory, buffer, devices); (s == nil) != (n != 0) {
			t.Errorf("case %d: %v", n, s)
		}
	}
}

func TestG1NewHasNothing(t *testing.T) {
	w := newWorld(t)
	for n := -2; n <= 1025; n++ {
		if w.s.Root(n) != -1 || w.s.Space(n) != 0 || len(w.s.Mappings(n)) != 0 || len(w.s.Where(n)) != 0 {
			t.Errorf("%d: %d, %d, %v, %v", n, w.s.Root(n), w.s.Space(n), w.s.Mappings(n), w.s.Where(n))
		}
	}
	w.tables()
}

// New leaves alone what it is made of.
func TestG1NewChangesNothing(t *testing.T) {
	w := builtWorld(t)
	w.fill()
	before, lines := w.bytes(), w.b.Lines()
	if s := New(w.r, w.b, w.m); s == nil || s.Space(0) != 0 || s.Root(1) != -1 {
		t.Error("a new one has a space")
	}
	if !slices.Equal(w.bytes(), before) || !slices.Equal(w.b.Lines(), lines) || w.m.Root(0) != 4 {
		t.Error("New changed what it was given")
	}
	w.knows(4, 2, 2, 1)
}

func TestG1RootSpaceTables(t *testing.T) {
	w := builtWorld(t)
	for vmid, root := range map[int]int{0: -1, 1: 4, 2: 5, 3: 12, 4: -1, 15: -1, 16: -1} {
		if got := w.s.Root(vmid); got != root {
			t.Errorf("Root(%d): %d; want %d", vmid, got, root)
		}
	}
	for stream, vmid := range map[int]int{0: 1, 1: 0, 7: 1, 14: 0, 15: 2, 16: 0} {
		if got := w.s.Space(stream); got != vmid {
			t.Errorf("Space(%d): %d; want %d", stream, got, vmid)
		}
	}
	for _, n := range far {
		if w.s.Root(n) != -1 || w.s.Space(n) != 0 {
			t.Errorf("%d: %d, %d", n, w.s.Root(n), w.s.Space(n))
		}
	}
	w.tables(4, 5, 6, 7, 8, 12)
}

// Tables rise, in whatever order they came.
func TestG1TablesRise(t *testing.T) {
	w := newWorld(t)
	for n, table := range []int{63, 0, 31, 1} {
		w.assigns(table, n+1)
	}
	for n, table := range []int{62, 2, 40, 3, 50} {
		w.good(w.s.MapTable(n%4+1, 32*n, table))
	}
	w.tables(0, 1, 2, 3, 31, 40, 50, 62, 63)
	w.good(w.s.Free(1))
	w.tables(0, 1, 2, 3, 31, 40)
}

func TestG2AssignClears(t *testing.T) {
	for _, table := range []int{0, 1, 32, 63} {
		w := newWorld(t)
		w.changes(func() api.Errno {
			_, e := w.s.Assign(table)
			return e
		}, table)
		if f, _ := w.r.Frame(table); !slices.Equal(f, make([]byte, 64)) {
			t.Errorf("the root %d: %v", table, f)
		}
		w.tables(table)
		w.maps(1)
		for _, page := range []int{0, 31, 32, 1023} {
			if _, _, f := walk.Single(w.r, table, page); f != (api.Fault{Kind: api.FaultMissing, Stage: 2, Page: page}) {
				t.Errorf("page %d of a new space: %+v", page, f)
			}
		}
	}
}

func TestG2AssignNoFrame(t *testing.T) {
	w := builtWorld(t)
	w.failsAssign(frames, api.ErrArg)
	w.failsAssign(1000, api.ErrArg) // a page says it, but it is not there
	w.failsAssign(1023, api.ErrArg)
	for _, table := range far {
		w.failsAssign(table, api.ErrArg)
	}
}

func TestG2AssignTaken(t *testing.T) {
	w := builtWorld(t)
	for _, table := range []int{4, 5, 6, 7, 8, 9, 10, 11, 12} {
		w.failsAssign(table, api.ErrTable)
	}
	w.assigns(13, 4)
}

// A frame may become a table again when it is mapped nowhere any more.
func TestG2AssignOfWhatWasMapped(t *testing.T) {
	w := builtWorld(t)
	w.good(w.s.Unmap(1, 3))
	w.failsAssign(9, api.ErrTable)
	w.good(w.s.Unmap(1, 1023))
	w.assigns(9, 4)
	w.good(w.s.UnmapTable(2, 0))
	w.assigns(8, 5)
	w.assigns(11, 6)
	w.failsAssign(10, api.ErrTable)
	w.good(w.s.Free(1))
	for n, table := range []int{10, 4, 6, 7} {
		w.assigns(table, []int{1, 7, 8, 9}[n])
	}
}

func TestG2AssignFifteen(t *testing.T) {
	w := newWorld(t)
	for n := range 15 {
		w.assigns(20+n, n+1)
	}
	w.good(w.s.MapTable(7, 0, 40), w.s.Map(7, 0, 41, 1))
	w.failsAssign(50, api.ErrSpace)
	// What comes first is told, though there is no number left.
	w.failsAssign(frames, api.ErrArg)
	w.failsAssign(-1, api.ErrArg)
	w.failsAssign(20, api.ErrTable)
	w.failsAssign(40, api.ErrTable)
	w.failsAssign(41, api.ErrTable)
	for n := range 15 {
		if w.s.Root(n+1) != 20+n {
			t.Error(n, w.s.Root(n+1))
		}
	}
	w.good(w.s.Free(15), w.s.Free(3), w.s.Free(9))
	for n, table := range []int{51, 52, 53} {
		w.assigns(table, []int{3, 9, 15}[n])
	}
	w.failsAssign(54, api.ErrSpace)
}

func TestG3FreeErrors(t *testing.T) {
	w := builtWorld(t)
	w.fill()
	for _, vmid := range append([]int{0, 4, 15, 16, 17}, far...) {
		w.failsFree(vmid, api.ErrSpace)
	}
	w.knows(4, 2, 2, 1)
	w.good(w.s.Free(2))
	w.failsFree(2, api.ErrSpace)
}

func TestG3Free(t *testing.T) {
	w := builtWorld(t)
	w.fill()
	w.changes(func() api.Errno { return w.s.Free(1) })
	w.maps(1)
	w.maps(2, api.Mapping{Vmid: 2, Page: 0, Frame: 11, Rights: 7}, api.Mapping{Vmid: 2, Page: 3, Frame: 10, Rights: 2})
	w.where(9)
	w.where(10, api.Mapping{Vmid: 2, Page: 3, Frame: 10, Rights: 2})
	w.tables(5, 8, 12)
	for _, x := range []struct{ stream, space, root int }{{0, 0, -1}, {7, 0, -1}, {15, 2, 5}} {
		if w.s.Space(x.stream) != x.space || w.m.Root(x.stream) != x.root {
			t.Errorf("%d, %d; want %+v", w.s.Space(x.stream), w.m.Root(x.stream), x)
		}
	}
	if w.s.Root(1) != -1 || w.s.Root(2) != 5 || w.s.Root(3) != 12 {
		t.Error(w.s.Root(1), w.s.Root(2), w.s.Root(3))
	}
	w.knows(0, 0, 2, 1)
	w.dma(0, 3, false, api.ErrFault)
	for _, e := range []api.Errno{w.s.MapTable(1, 0, 20), w.s.UnmapTable(1, 0), w.s.Map(1, 3, 9, 3), w.s.Unmap(1, 3), w.s.Attach(0, 1)} {
		if e != api.ErrSpace {
			t.Error("of a freed space:", e)
		}
	}
}

// A number that comes again has nothing of what it had.
func TestG3FreeAndAssignAgain(t *testing.T) {
	w := builtWorld(t)
	w.good(w.s.Free(1))
	w.assigns(30, 1)
	w.maps(1)
	w.failsUnmap(1, 3, api.ErrUnmapped)
	w.failsUnmapTable(1, 3, api.ErrUnmapped)
	w.failsMap(1, 3, 9, 3, api.ErrTable)
	w.good(w.s.MapTable(1, 3, 31))
	w.maps(1)
	if w.s.Space(0) != 0 || w.s.Space(7) != 0 {
		t.Error("a stream has it again")
	}
	// The old root is nobody's: it may be what it likes.
	w.good(w.s.Map(1, 4, 4, 3), w.s.Map(1, 5, 6, 3))
}

// A freed space's tables keep their bytes, and are cleared when they are taken again.
func TestG3TablesKeepTheirBytes(t *testing.T) {
	w := builtWorld(t)
	w.good(w.s.Free(1))
	if w.half(4, 0) != 6*64+1 || w.half(6, 3) != 9*64+3*4+3 {
		t.Error(w.half(4, 0), w.half(6, 3))
	}
	w.assigns(6, 1)
	w.good(w.s.MapTable(1, 0, 4))
	if w.half(6, 0) != 4*64+1 || w.half(6, 3) != 0 || w.half(4, 0) != 0 {
		t.Error(w.half(6, 0), w.half(6, 3), w.half(4, 0))
	}
	w.maps(1)
}

func TestG4MapTable(t *testing.T) {
	for _, page := range []int{0, 1, 31, 32, 63, 500, 991, 992, 1023} {
		w := builtWorld(t)
		before := w.bytes()
		w.good(w.s.MapTable(3, page, 20))
		if l := w.changed(before); !slices.Equal(l, []int{12, 20}) {
			t.Errorf("page %d: the frames %v were changed", page, l)
		}
		for i := range 32 {
			want := uint32(0)
			if i == page/32 {
				want = 20*64 + 1
			}
			if w.half(12, i) != want || w.half(20, i) != 0 {
				t.Errorf("page %d: the entries %d are %d and %d", page, i, w.half(12, i), w.half(20, i))
			}
		}
		w.tables(4, 5, 6, 7, 8, 12, 20)
		w.maps(3)
		for other := page / 32 * 32; other < page/32*32+32; other++ {
			w.failsMapTable(3, other, 21, api.ErrMapped)
		}
	}
}

// In a space all 32 indices may have a table.
func TestG4MapTableAll(t *testing.T) {
	w := newWorld(t)
	w.assigns(0, 1)
	for i := range 32 {
		w.good(w.s.MapTable(1, 32*i+i, 1+i))
		w.good(w.s.Map(1, 32*i+i, 40+i, i%7+1))
	}
	for i := range 32 {
		frame, rights, f := walk.Single(w.r, 0, 33*i)
		if frame != 40+i || rights != i%7+1 || f != (api.Fault{}) {
			t.Error(i, frame, rights, f)
		}
	}
	if l := w.s.Mappings(1); len(l) != 32 || l[31] != (api.Mapping{Vmid: 1, Page: 1023, Frame: 71, Rights: 4}) {
		t.Error(l)
	}
	w.failsMapTable(1, 0, 33, api.ErrMapped)
}

func TestG4MapTableErrors(t *testing.T) {
	w := builtWorld(t)
	for _, vmid := range append([]int{0, 4, 15, 16}, far...) {
		w.failsMapTable(vmid, 64, 20, api.ErrSpace)
		w.failsMapTable(vmid, -1, -1, api.ErrSpace)
		w.failsMapTable(vmid, 0, 4, api.ErrSpace)
	}
	for _, n := range far {
		w.failsMapTable(1, n, 20, api.ErrArg)
		w.failsMapTable(1, n, 4, api.ErrArg)
		w.failsMapTable(1, 64, n, api.ErrArg)
		w.failsMapTable(1, 0, n, api.ErrArg) // ahead of ErrMapped
	}
	w.failsMapTable(1, 64, frames, api.ErrArg)
	w.failsMapTable(1, 64, 1000, api.ErrArg)
	w.failsMapTable(1, 1023, 4, api.ErrMapped) // ahead of ErrTable
	w.failsMapTable(1, 0, 6, api.ErrMapped)
	w.failsMapTable(2, 31, 9, api.ErrMapped)
	for _, table := range []int{4, 5, 6, 7, 8, 9, 10, 11, 12} {
		for vmid := 1; vmid <= 3; vmid++ {
			w.failsMapTable(vmid, 64, table, api.ErrTable)
		}
	}
	w.good(w.s.MapTable(1, 64, 63))
}

// A new table takes nothing away: what the buffers remember stays.
func TestG4MapTableForgetsNothing(t *testing.T) {
	w := builtWorld(t)
	w.fill()
	w.good(w.s.MapTable(1, 64, 20))
	w.assigns(21, 4)
	w.knows(4, 2, 2, 1)
}

func TestG4UnmapTable(t *testing.T) {
	for _, page := range []int{0, 3, 7, 31} {
		w := builtWorld(t)
		w.fill()
		w.changes(func() api.Errno { return w.s.UnmapTable(1, page) }, 4)
		if w.half(4, 0) != 0 || w.half(4, 31) != 7*64+1 || w.half(6, 3) != 9*64+3*4+3 {
			t.Errorf("page %d: %d, %d, %d", page, w.half(4, 0), w.half(4, 31), w.half(6, 3))
		}
		w.maps(1, api.Mapping{Vmid: 1, Page: 992, Frame: 1000, Rights: 7}, api.Mapping{Vmid: 1, Page: 1023, Frame: 9, Rights: 4})
		w.maps(2, api.Mapping{Vmid: 2, Page: 0, Frame: 11, Rights: 7}, api.Mapping{Vmid: 2, Page: 3, Frame: 10, Rights: 2})
		w.where(9, api.Mapping{Vmid: 1, Page: 1023, Frame: 9, Rights: 4})
		w.tables(4, 5, 7, 8, 12)
		w.knows(0, 0, 2, 1)
		if w.s.Space(0) != 1 || w.m.Root(0) != 4 {
			t.Error("a stream has its space no more")
		}
		w.failsUnmapTable(1, page, api.ErrUnmapped)
		w.failsUnmap(1, 3, api.ErrUnmapped)
		w.failsMap(1, 3, 9, 3, api.ErrTable)
	}
}

func TestG4UnmapTableErrors(t *testing.T) {
	w := builtWorld(t)
	w.fill()
	for _, vmid := range append([]int{0, 4, 15, 16}, far...) {
		w.failsUnmapTable(vmid, 0, api.ErrSpace)
		w.failsUnmapTable(vmid, -1, api.ErrSpace)
	}
	for _, page := range far {
		w.failsUnmapTable(1, page, api.ErrArg)
		w.failsUnmapTable(3, page, api.ErrArg)
	}
	for page := 32; page < 992; page++ {
		if e := w.s.UnmapTable(1, page); e != api.ErrUnmapped {
			t.Fatalf("page %d: %v", page, e)
		}
	}
	w.failsUnmapTable(3, 0, api.ErrUnmapped)
	w.failsUnmapTable(2, 32, api.ErrUnmapped)
	w.knows(4, 2, 2, 1)
}

// A table that is taken out and mapped again, here or in another space, has nothing.
func TestG4TableComesBackEmpty(t *testing.T) {
	for _, at := range []struct{ vmid, page int }{{1, 0}, {1, 500}, {2, 100}} {
		w := builtWorld(t)
		w.good(w.s.UnmapTable(1, 0), w.s.MapTable(at.vmid, at.page, 6))
		before := w.s.Mappings(at.vmid)
		for i := range 32 {
			page := at.page/32*32 + i
			if _, _, f := walk.Single(w.r, w.s.Root(at.vmid), page); f != (api.Fault{Kind: api.FaultMissing, Stage: 2, Level: 1, Page: page}) {
				t.Errorf("page %d of %d: %+v", page, at.vmid, f)
			}
			w.failsUnmap(at.vmid, page, api.ErrUnmapped)
		}
		if !slices.Equal(before, w.s.Mappings(at.vmid)) {
			t.Error(before)
		}
	}
}

func TestG5Map(t *testing.T) {
	for _, page := range []int{0, 1, 4, 31, 992, 1022} {
		for _, frame := range []int{0, 9, 10, 63, 64, 1000, 1023} {
			w := builtWorld(t)
			if page == 992 || page == 0 {
				w.s.Unmap(1, page)
			}
			table := w.half(4, page/32) / 64
			for rights := 1; rights <= 7; rights++ { // the same frame again, with other rights
				w.fill2()
				w.changes(func() api.Errno { return w.s.Map(1, page, frame, rights) }, int(table))
				if got := w.half(int(table), page%32); got != uint32(frame*64+rights*4+3) {
					t.Errorf("page %d, frame %d, rights %d: %d", page, frame, rights, got)
				}
				if n, x, f := walk.Single(w.r, 4, page); n != frame || x != rights || f != (api.Fault{}) {
					t.Errorf("page %d, frame %d, rights %d: %d, %d, %+v", page, frame, rights, n, x, f)
				}
				if !slices.Contains(w.s.Mappings(1), api.Mapping{Vmid: 1, Page: page, Frame: frame, Rights: rights}) {
					t.Error(w.s.Mappings(1))
				}
				w.knows(0, 0, 2, 1)
			}
			w.maps(2, api.Mapping{Vmid: 2, Page: 0, Frame: 11, Rights: 7}, api.Mapping{Vmid: 2, Page: 3, Frame: 10, Rights: 2})
		}
	}
}

// fill2 lets the buffers remember one page of the space 1, and what fill lets them of the space 2.
func (w *world) fill2() {
	w.t.Helper()
	w.reaches(api.Space{Vmid: 1, First: -1, Second: 4}, 3, api.Read, 9)
	w.reaches(api.Space{Vmid: 2, Asid: 1, First: -1, Second: 5}, 3, api.Write, 10)
	w.reaches(api.Space{Vmid: 2, First: -1, Second: 5}, 0, api.Exec, 11)
	w.dma(7, 3, false, api.OK)
	w.dma(15, 0, false, api.OK)
}

// The same mapping again changes no byte, and is forgotten all the same.
func TestG5MapTheSameAgain(t *testing.T) {
	w := builtWorld(t)
	w.fill()
	w.changes(func() api.Errno { return w.s.Map(1, 3, 9, 3) })
	w.knows(0, 0, 2, 1)
	w.where(9, api.Mapping{Vmid: 1, Page: 3, Frame: 9, Rights: 3}, api.Mapping{Vmid: 1, Page: 1023, Frame: 9, Rights: 4})
}

func TestG5MapErrors(t *testing.T) {
	w := builtWorld(t)
	w.fill()
	for _, vmid := range append([]int{0, 4, 15, 16}, far...) {
		w.failsMap(vmid, 0, 20, 1, api.ErrSpace)
		w.failsMap(vmid, -1, -1, 0, api.ErrSpace)
	}
	for _, n := range far {
		w.failsMap(1, n, 20, 1, api.ErrArg)
		w.failsMap(1, 0, n, 1, api.ErrArg)
		w.failsMap(1, 0, 20, n, api.ErrArg)
		w.failsMap(3, 0, n, 1, api.ErrArg)  // ahead of ErrTable: no table is there
		w.failsMap(1, 0, 4, n, api.ErrArg)  // ahead of ErrTable: it is a table
		w.failsMap(1, 3, 20, n, api.ErrArg) // ahead of ErrMapped
	}
	for _, rights := range []int{0, 8, 9, 15} {
		w.failsMap(1, 3, 9, rights, api.ErrArg)
	}
	for _, page := range []int{32, 500, 991} {
		w.failsMap(1, page, 20, 1, api.ErrTable)
	}
	w.failsMap(3, 0, 20, 1, api.ErrTable)
	w.failsMap(2, 992, 20, 1, api.ErrTable) // the space 1 has one there
	for _, table := range []int{4, 5, 6, 7, 8, 12} {
		for vmid := 1; vmid <= 2; vmid++ {
			w.failsMap(vmid, 9, table, 7, api.ErrTable)
			w.failsMap(vmid, 3, table, 7, api.ErrTable) // ahead of ErrMapped
		}
	}
	w.failsMap(1, 3, 10, 3, api.ErrMapped)
	w.failsMap(1, 3, 1023, 1, api.ErrMapped)
	w.failsMap(1, 992, 9, 7, api.ErrMapped)
	w.knows(4, 2, 2, 1)
}

// A frame may be mapped at many pages, of many spaces.
func TestG5OneFrameAtManyPages(t *testing.T) {
	w := builtWorld(t)
	w.good(w.s.Map(2, 9, 9, 1), w.s.Map(1, 9, 9, 2), w.s.Map(1, 10, 9, 7))
	w.where(9, api.Mapping{Vmid: 1, Page: 3, Frame: 9, Rights: 3}, api.Mapping{Vmid: 1, Page: 9, Frame: 9, Rights: 2}, api.Mapping{Vmid: 1, Page: 10, Frame: 9, Rights: 7}, api.Mapping{Vmid: 1, Page: 1023, Frame: 9, Rights: 4}, api.Mapping{Vmid: 2, Page: 9, Frame: 9, Rights: 1})
}

func TestG5Unmap(t *testing.T) {
	for _, x := range []struct{ page, table int }{{3, 6}, {5, 6}, {992, 7}, {1023, 7}} {
		w := builtWorld(t)
		all := w.s.Mappings(1)
		w.fill()
		w.changes(func() api.Errno { return w.s.Unmap(1, x.page) }, x.table)
		if w.half(x.table, x.page%32) != 0 {
			t.Errorf("page %d: %d", x.page, w.half(x.table, x.page%32))
		}
		w.maps(1, slices.DeleteFunc(all, func(m api.Mapping) bool { return m.Page == x.page })...)
		w.knows(0, 0, 2, 1)
		w.tables(4, 5, 6, 7, 8, 12)
		w.failsUnmap(1, x.page, api.ErrUnmapped)
		w.good(w.s.Map(1, x.page, 33, 1)) // another frame may have it now
	}
}

func TestG5UnmapErrors(t *testing.T) {
	w := builtWorld(t)
	w.fill()
	for _, vmid := range append([]int{0, 4, 15, 16}, far...) {
		w.failsUnmap(vmid, 3, api.ErrSpace)
		w.failsUnmap(vmid, -1, api.ErrSpace)
	}
	for _, page := range far {
		w.failsUnmap(1, page, api.ErrArg)
		w.failsUnmap(3, page, api.ErrArg)
	}
	for page := range 1024 {
		if page == 3 || page == 5 || page == 992 || page == 1023 {
			continue
		}
		if e := w.s.Unmap(1, page); e != api.ErrUnmapped {
			t.Fatalf("page %d: %v", page, e)
		}
	}
	w.failsUnmap(3, 3, api.ErrUnmapped)
	w.failsUnmap(2, 5, api.ErrUnmapped)
	w.knows(4, 2, 2, 1)
}

func TestG6(t *testing.T) {
	w := builtWorld(t)
	one := []api.Mapping{{Vmid: 1, Page: 3, Frame: 9, Rights: 3}, {Vmid: 1, Page: 5, Frame: 10, Rights: 1}, {Vmid: 1, Page: 992, Frame: 1000, Rights: 7}, {Vmid: 1, Page: 1023, Frame: 9, Rights: 4}}
	w.maps(1, one...)
	w.maps(2, api.Mapping{Vmid: 2, Page: 0, Frame: 11, Rights: 7}, api.Mapping{Vmid: 2, Page: 3, Frame: 10, Rights: 2})
	w.maps(3)
	w.where(9, one[0], one[3])
	w.where(10, one[1], api.Mapping{Vmid: 2, Page: 3, Frame: 10, Rights: 2})
	w.where(1000, one[2])
	for _, frame := range []int{0, 4, 5, 6, 7, 8, 12, 63, 1023} {
		w.where(frame)
	}
	for _, n := range append([]int{0, 4, 15, 16}, far...) {
		w.maps(n)
	}
	for _, n := range far {
		w.where(n)
	}
}

// A space whose every page is mapped is told by rising pages, whatever the order in which they came.
func TestG6AllPages(t *testing.T) {
	w := newWorld(t)
	w.assigns(33, 1)
	w.assigns(34, 2)
	w.good(w.s.MapTable(2, 0, 35), w.s.Map(2, 0, 40, 1))
	for i := range 32 {
		w.good(w.s.MapTable(1, 32*(31-i), i))
	}
	frame := func(page int) int { return 36 + page%988 }
	for k := range 1024 {
		page := k * 389 % 1024
		w.good(w.s.Map(1, page, frame(page), page%7+1))
	}
	all := w.s.Mappings(1)
	if len(all) != 1024 {
		t.Fatal(len(all))
	}
	for page, m := range all {
		if m != (api.Mapping{Vmid: 1, Page: page, Frame: frame(page), Rights: page%7 + 1}) {
			t.Fatal(page, m)
		}
	}
	w.where(40, all[4], all[992], api.Mapping{Vmid: 2, Page: 0, Frame: 40, Rights: 1})
	w.good(w.s.Free(1))
	w.maps(1)
	w.where(40, api.Mapping{Vmid: 2, Page: 0, Frame: 40, Rights: 1})
}

// Numbers of two digits stand behind those of one, and all spaces are asked.
func TestG6WhereInAllSpaces(t *testing.T) {
	w := newWorld(t)
	var want []api.Mapping
	for n := range 15 {
		w.assigns(n, n+1)
		w.good(w.s.MapTable(n+1, 64, 20+n))
	}
	for n := 15; n >= 1; n-- {
		w.good(w.s.Map(n, 64+n, 50, 1))
	}
	for n := 1; n <= 15; n++ {
		want = append(want, api.Mapping{Vmid: n, Page: 64 + n, Frame: 50, Rights: 1})
	}
	w.where(50, want...)
}

// What is told is new memory.
func TestG6AnswersAreNew(t *testing.T) {
	w := builtWorld(t)
	before := w.told()
	for _, l := range [][]api.Mapping{w.s.Mappings(1), w.s.Where(9)} {
		clear(l)
		_ = append(l[:0], api.Mapping{Vmid: 99})
	}
	clear(w.s.Tables())
	if !reflect.DeepEqual(w.told(), before) {
		t.Error("an answer was written, and something changed")
	}
	if kept := w.s.Mappings(1); w.s.Unmap(1, 3) != api.OK || kept[0].Frame != 9 || len(kept) != 4 {
		t.Error(kept)
	}
}

func TestG7Attach(t *testing.T) {
	for _, stream := range []int{0, 1, 8, 15} {
		w := builtWorld(t)
		for _, x := range []struct{ vmid, root int }{{3, 12}, {1, 4}, {2, 5}, {2, 5}} {
			w.changes(func() api.Errno { return w.s.Attach(stream, x.vmid) })
			if w.s.Space(stream) != x.vmid || w.m.Root(stream) != x.root {
				t.Errorf("the stream %d: %d, %d; want %+v", stream, w.s.Space(stream), w.m.Root(stream), x)
			}
			if w.s.Space(7) != 1 || w.m.Root(7) != 4 {
				t.Error("another stream has another space")
			}
		}
		w.good(w.s.Detach(stream))
		if w.s.Space(stream) != 0 || w.m.Root(stream) != -1 {
			t.Error(stream, w.s.Space(stream), w.m.Root(stream))
		}
		w.good(w.s.Detach(stream)) // though it has none
		if w.s.Space(7) != 1 || w.m.Root(7) != 4 {
			t.Error("another stream has none any more")
		}
	}
}

func TestG7Errors(t *testing.T) {
	w := builtWorld(t)
	w.fill()
	for _, stream := range append([]int{16, 17, 31}, far...) {
		w.failsAttach(stream, 1, api.ErrStream)
		w.failsAttach(stream, 9, api.ErrStream)
		w.failsDetach(stream, api.ErrStream)
	}
	for _, vmid := range append([]int{0, 4, 15, 16}, far...) {
		w.failsAttach(0, vmid, api.ErrSpace)
		w.failsAttach(3, vmid, api.ErrSpace)
	}
	w.knows(4, 2, 2, 1)
}

// A stream that goes to another space, or to none, reaches nothing of the old one; the others' are remembered on.
func TestG7DeviceFollows(t *testing.T) {
	w := builtWorld(t)
	w.fill()
	w.dma(0, 3, true, api.OK)
	w.good(w.s.Attach(0, 2))
	w.dma(0, 3, false, api.ErrFault)
	w.dma(0, 3, true, api.OK)
	w.dma(0, 0, false, api.OK)
	w.good(w.s.Detach(0))
	w.dma(0, 0, false, api.ErrFault)
	w.dma(0, 3, true, api.ErrFault)
	w.dma(7, 3, true, api.OK)
	w.good(w.s.Detach(7))
	w.knows(4, 0, 2, 0)
}

// A stream that has left a space is not touched by what becomes of that.
func TestG7FormerSpace(t *testing.T) {
	w := builtWorld(t)
	w.good(w.s.Attach(0, 2))
	w.dma(0, 0, false, api.OK)
	w.good(w.s.Unmap(1, 5), w.s.Map(1, 3, 9, 1), w.s.UnmapTable(1, 0), w.s.Free(1))
	if w.s.Space(0) != 2 || w.m.Root(0) != 5 || w.s.Space(7) != 0 {
		t.Error(w.s.Space(0), w.m.Root(0), w.s.Space(7))
	}
	if n := w.m.Flush(0); n != 1 {
		t.Error("the stream's page is remembered no more:", n)
	}
}

// A thread reaches what is mapped, with the rights that are; behind each change that takes away, no more.
func TestG8Thread(t *testing.T) {
	w := builtWorld(t)
	sp := api.Space{Vmid: 1, First: -1, Second: 4}
	missing := func(level, page int) api.Fault {
		return api.Fault{Kind: api.FaultMissing, Stage: 2, Level: level, Page: page}
	}
	rights := func(page int) api.Fault {
		return api.Fault{Kind: api.FaultRights, Stage: 2, Level: 1, Page: page}
	}
	w.reaches(sp, 3, api.Write, 9)
	w.reaches(sp, 3, api.Read, 9)
	w.faults(sp, 3, api.Exec, rights(3))
	w.good(w.s.Map(1, 3, 9, api.Read|api.Exec))
	w.faults(sp, 3, api.Write, rights(3))
	w.reaches(sp, 3, api.Exec, 9)
	w.good(w.s.Unmap(1, 3))
	w.faults(sp, 3, api.Read, missing(1, 3))
	w.good(w.s.Map(1, 3, 22, api.Write))
	w.reaches(sp, 3, api.Write, 22)
	w.reaches(sp, 1023, api.Exec, 9)
	w.good(w.s.UnmapTable(1, 1000))
	w.faults(sp, 1023, api.Exec, missing(0, 1023))
	w.reaches(sp, 3, api.Write, 22)
}

// A device likewise, whichever of its space's pages it was.
func TestG8Device(t *testing.T) {
	w := builtWorld(t)
	for _, stream := range []int{0, 7} {
		w.dma(stream, 3, true, api.OK)
		w.dma(stream, 5, false, api.OK)
		w.dma(stream, 5, true, api.ErrFault)
	}
	w.dma(15, 3, true, api.OK)
	if x, _ := w.r.Load(64*9, 1); x != 77 {
		t.Error(x)
	}
	w.good(w.s.Map(1, 3, 9, api.Read))
	for _, stream := range []int{0, 7} {
		w.dma(stream, 3, true, api.ErrFault)
		w.dma(stream, 3, false, api.OK)
	}
	w.good(w.s.Unmap(1, 3))
	for _, stream := range []int{0, 7} {
		w.dma(stream, 3, false, api.ErrFault)
		w.dma(stream, 5, false, api.OK)
	}
	w.good(w.s.UnmapTable(1, 31))
	for _, stream := range []int{0, 7} {
		w.dma(stream, 5, false, api.ErrFault)
	}
	w.dma(15, 3, true, api.OK)
	w.good(w.s.Free(2))
	w.dma(15, 3, true, api.ErrFault)
}

// A guest's own table lies in its page 3, and the next one in its page 5; they say the pages 6 and 7. It reaches no more than its space has, and what was remembered for any address space number is forgotten.
func TestG8Guest(t *testing.T) {
	w := builtWorld(t)
	w.good(w.r.Clear(9), w.r.Clear(10), w.s.Map(1, 6, 30, 7))
	w.good(pte.Put(w.r, 9, 0, api.Entry{Valid: true, Frame: 5}))
	for page := 1; page <= 2; page++ {
		w.good(pte.Put(w.r, 10, page, api.Entry{Valid: true, Leaf: true, Rights: 7, Frame: 5 + page}))
	}
	missing := func(page int, walk bool) api.Fault {
		return api.Fault{Kind: api.FaultMissing, Stage: 2, Level: 1, Walk: walk, Page: page}
	}
	for asid := range 16 {
		sp := api.Space{Vmid: 1, Asid: asid, First: 3, Second: 4}
		w.reaches(sp, 1, api.Write, 30)
		w.faults(sp, 2, api.Read, missing(7, false))
	}
	for at := range 8 {
		w.good(w.b.Fill(at, api.Line{Vmid: 1, Asid: at, Page: 1, Frame: 30, Rights: 7}))
	}
	w.good(w.s.Unmap(1, 6))
	for asid := range 16 {
		w.faults(api.Space{Vmid: 1, Asid: asid, First: 3, Second: 4}, 1, api.Read, missing(6, false))
	}
	w.good(w.s.Unmap(1, 5))
	w.faults(api.Space{Vmid: 1, First: 3, Second: 4}, 1, api.Read, missing(5, true))
}
