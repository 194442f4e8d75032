package space

import (
	"fmt"
	"slices"
	"testing"

	"viceroy/api"
	"viceroy/iommu"
	"viceroy/ram"
	"viceroy/tlb"
	"viceroy/walk"
)

// dice throws the same numbers in each run.
type dice struct{ x uint64 }

func (d *dice) throw(n int) int {
	d.x = d.x*6364136223846793005 + 1442695040888963407
	return int(d.x >> 33 % uint64(n))
}

func (d *dice) pick(l ...int) int { return l[d.throw(len(l))] }

// cell is what one of the model's buffers remembers: of a page of a space, or of a stream's.
type cell struct {
	full                    bool
	of, page, frame, rights int
}

// held is a table that is mapped: of which space, at which index.
type held struct{ vmid, index, table int }

// model is what the chapter says, told in another way: lists that are gone through each time, the memory as a row of bytes, the buffers as rows of cells.
type model struct {
	bytes   []byte
	root    [16]int // 0 is no space's: frames are counted from 1 on here
	tables  []held
	maps    []api.Mapping
	streams [16]int
	lines   [8]cell
	devices [8]cell
}

func (m *model) frames() int { return len(m.bytes) / 64 }

func (m *model) there(vmid int) bool { return vmid >= 1 && vmid <= 15 && m.root[vmid] > 0 }

func (m *model) inUse() []int {
	var l []int
	for frame := range m.frames() {
		isRoot := slices.Contains(m.root[:], frame+1)
		if isRoot || slices.ContainsFunc(m.tables, func(h held) bool { return h.table == frame }) {
			l = append(l, frame)
		}
	}
	return l
}

func (m *model) where(vmid, frame int) []api.Mapping {
	var l []api.Mapping
	for v := 1; v <= 15; v++ {
		for page := range 1024 {
			for _, x := range m.maps {
				if x.Vmid == v && x.Page == page && (vmid == v || vmid < 0) && (x.Frame == frame || frame < 0) {
					l = append(l, x)
				}
			}
		}
	}
	return l
}

func (m *model) taken(frame int) bool {
	return slices.Contains(m.inUse(), frame) || slices.ContainsFunc(m.maps, func(x api.Mapping) bool { return x.Frame == frame })
}

func (m *model) clear(frame int) { copy(m.bytes[64*frame:], make([]byte, 64)) }

func (m *model) word(frame, i, w int) {
	m.bytes[64*frame+2*i], m.bytes[64*frame+2*i+1] = byte(w%256), byte(w/256)
}

// table is the one of a page; -1, if there is none.
func (m *model) table(vmid, page int) int {
	for _, h := range m.tables {
		if h.vmid == vmid && h.index == page/32 {
			return h.table
		}
	}
	return -1
}

func (m *model) forget(vmid int) {
	for i, c := range m.lines {
		if c.full && c.of == vmid {
			m.lines[i] = cell{}
		}
	}
	for i, c := range m.devices {
		if c.full && m.streams[c.of] == vmid {
			m.devices[i] = cell{}
		}
	}
}

func (m *model) assign(table int) (int, api.Errno) {
	if table < 0 || table >= m.frames() {
		return 0, api.ErrArg
	}
	if m.taken(table) {
		return 0, api.ErrTable
	}
	for vmid := 1; vmid <= 15; vmid++ {
		if m.root[vmid] == 0 {
			m.root[vmid] = table + 1
			m.clear(table)
			return vmid, api.OK
		}
	}
	return 0, api.ErrSpace
}

func (m *model) free(vmid int) api.Errno {
	if !m.there(vmid) {
		return api.ErrSpace
	}
	m.tables = slices.DeleteFunc(m.tables, func(h held) bool { return h.vmid == vmid })
	m.maps = slices.DeleteFunc(m.maps, func(x api.Mapping) bool { return x.Vmid == vmid })
	m.forget(vmid)
	for stream, v := range m.streams {
		if v == vmid {
			m.streams[stream] = 0
		}
	}
	m.root[vmid] = 0
	return api.OK
}

func (m *model) mapTable(vmid, page, table int) api.Errno {
	switch {
	case !m.there(vmid):
		return api.ErrSpace
	case page < 0 || page > 1023 || table < 0 || table >= m.frames():
		return api.ErrArg
	case m.table(vmid, page) >= 0:
		return api.ErrMapped
	case m.taken(table):
		return api.ErrTable
	}
	m.clear(table)
	m.word(m.root[vmid]-1, page/32, 1+64*table)
	m.tables = append(m.tables, held{vmid, page / 32, table})
	return api.OK
}

func (m *model) unmapTable(vmid, page int) api.Errno {
	switch {
	case !m.there(vmid):
		return api.ErrSpace
	case page < 0 || page > 1023:
		return api.ErrArg
	case m.table(vmid, page) < 0:
		return api.ErrUnmapped
	}
	m.word(m.root[vmid]-1, page/32, 0)
	m.tables = slices.DeleteFunc(m.tables, func(h held) bool { return h.vmid == vmid && h.index == page/32 })
	m.maps = slices.DeleteFunc(m.maps, func(x api.Mapping) bool { return x.Vmid == vmid && x.Page/32 == page/32 })
	m.forget(vmid)
	return api.OK
}

// drop takes a page's mapping away, and tells it.
func (m *model) drop(vmid, page int) (api.Mapping, bool) {
	for i, x := range m.maps {
		if x.Vmid == vmid && x.Page == page {
			m.maps = slices.Delete(m.maps, i, i+1)
			return x, true
		}
	}
	return api.Mapping{}, false
}

func (m *model) mapFrame(vmid, page, frame, rights int) api.Errno {
	switch {
	case !m.there(vmid):
		return api.ErrSpace
	case page < 0 || page > 1023 || frame < 0 || frame > 1023 || rights < 1 || rights > 7:
		return api.ErrArg
	case m.table(vmid, page) < 0 || slices.Contains(m.inUse(), frame):
		return api.ErrTable
	}
	if old, ok := m.drop(vmid, page); ok && old.Frame != frame {
		m.maps = append(m.maps, old)
		return api.ErrMapped
	}
	m.maps = append(m.maps, api.Mapping{Vmid: vmid, Page: page, Frame: frame, Rights: rights})
	m.word(m.table(vmid, page), page%32, 3+4*rights+64*frame)
	m.forget(vmid)
	return api.OK
}

func (m *model) unmap(vmid, page int) api.Errno {
	switch {
	case !m.there(vmid):
		return api.ErrSpace
	case page < 0 || page > 1023:
		return api.ErrArg
	}
	if _, ok := m.drop(vmid, page); !ok {
		return api.ErrUnmapped
	}
	m.word(m.table(vmid, page), page%32, 0)
	m.forget(vmid)
	return api.OK
}

func (m *model) flush(stream int) int {
	n := 0
	for i, c := range m.devices {
		if c.full && c.of == stream {
			m.devices[i] = cell{}
			n++
		}
	}
	return n
}

func (m *model) attach(stream, vmid int) api.Errno {
	if stream < 0 || stream > 15 {
		return api.ErrStream
	}
	if !m.there(vmid) {
		return api.ErrSpace
	}
	m.flush(stream)
	m.streams[stream] = vmid
	return api.OK
}

func (m *model) detach(stream int) api.Errno {
	if stream < 0 || stream > 15 {
		return api.ErrStream
	}
	m.flush(stream)
	m.streams[stream] = 0
	return api.OK
}

// find is the theorem: a page is found just if it is mapped, whatever is remembered.
func (m *model) find(vmid, page, want int) (api.Mapping, bool) {
	for _, x := range m.maps {
		if x.Vmid == vmid && x.Page == page && x.Rights&want != 0 {
			return x, true
		}
	}
	return api.Mapping{}, false
}

func (m *model) reach(vmid, page, want, at int) (int, bool) {
	x, ok := m.find(vmid, page, want)
	known := func(c cell) bool { return c.full && c.of == vmid && c.page == page }
	if ok && !slices.ContainsFunc(m.lines[:], known) {
		m.lines[at] = cell{true, vmid, page, x.Frame, x.Rights}
	}
	return x.Frame, ok
}

func (m *model) dma(stream, page, k int, write bool, b byte) (byte, bool) {
	want := api.Read
	if write {
		want = api.Write
	}
	x, ok := m.find(m.streams[stream], page, want)
	if !ok {
		return 0, false
	}
	m.devices[page%8] = cell{true, stream, page, x.Frame, x.Rights}
	if x.Frame >= m.frames() {
		return 0, false
	}
	if write {
		m.bytes[64*x.Frame+k] = b
	}
	return m.bytes[64*x.Frame+k], true
}

// both is a world with its model.
type both struct {
	t    *testing.T
	d    dice
	r    *ram.Ram
	b    *tlb.Tlb
	m    *iommu.Iommu
	s    *Spaces
	o    *model
	done map[string]int
	last string
}

func newBoth(t *testing.T, memory int, seed uint64, done map[string]int) *both {
	t.Helper()
	r, e := ram.New(memory)
	if e != api.OK {
		t.Fatal(e)
	}
	w := &both{t: t, d: dice{seed}, r: r, b: tlb.New(), m: iommu.New(), o: &model{}, done: done}
	for at := range 64 * memory {
		w.o.bytes = append(w.o.bytes, mark(at/64, at%64))
		r.Store(at, 1, uint32(w.o.bytes[at]))
	}
	w.s = New(r, w.b, w.m)
	return w
}

// told counts which answers came, so that a row that never meets one is seen.
func (w *both) told(got, want api.Errno, call string, args ...int) {
	w.t.Helper()
	w.done[fmt.Sprint(call, " ", int(want))]++
	w.last = fmt.Sprint(call, args)
	if got != want {
		w.t.Fatalf("%s: %v; want %v", w.last, got, want)
	}
}

func (w *both) assign(table int) {
	w.t.Helper()
	vmid, e := w.s.Assign(table)
	want, err := w.o.assign(table)
	w.told(e, err, "Assign", table)
	if vmid != want {
		w.t.Fatalf("Assign(%d): %d; want %d", table, vmid, want)
	}
}

func (w *both) free(vmid int) {
	w.t.Helper()
	w.told(w.s.Free(vmid), w.o.free(vmid), "Free", vmid)
}

func (w *both) mapTable(vmid, page, table int) {
	w.t.Helper()
	w.told(w.s.MapTable(vmid, page, table), w.o.mapTable(vmid, page, table), "MapTable", vmid, page, table)
}

func (w *both) unmapTable(vmid, page int) {
	w.t.Helper()
	w.told(w.s.UnmapTable(vmid, page), w.o.unmapTable(vmid, page), "UnmapTable", vmid, page)
}

func (w *both) mapFrame(vmid, page, frame, rights int) {
	w.t.Helper()
	w.told(w.s.Map(vmid, page, frame, rights), w.o.mapFrame(vmid, page, frame, rights), "Map", vmid, page, frame, rights)
}

func (w *both) unmap(vmid, page int) {
	w.t.Helper()
	w.told(w.s.Unmap(vmid, page), w.o.unmap(vmid, page), "Unmap", vmid, page)
}

func (w *both) attach(stream, vmid int) {
	w.t.Helper()
	w.told(w.s.Attach(stream, vmid), w.o.attach(stream, vmid), "Attach", stream, vmid)
}

func (w *both) detach(stream int) {
	w.t.Helper()
	w.told(w.s.Detach(stream), w.o.detach(stream), "Detach", stream)
}

// reach is an access of a thread, whose space has a root while it runs.
func (w *both) reach(vmid, page, want, at int) {
	w.t.Helper()
	if !w.o.there(vmid) {
		return
	}
	frame, ok := w.o.reach(vmid, page, want, at)
	got, f := walk.Reach(w.r, w.b, api.Space{Vmid: vmid, First: -1, Second: w.s.Root(vmid)}, page, want, at)
	if got != frame || (f == api.Fault{}) != ok {
		w.t.Fatalf("behind %s: page %d of %d, right %d: %d, %+v; want %d, %v", w.last, page, vmid, want, got, f, frame, ok)
	}
	w.done[fmt.Sprint("Reach ", ok)]++
}

func (w *both) dma(stream, page, k int, write bool, b byte) {
	w.t.Helper()
	want, ok := w.o.dma(stream, page, k, write, b)
	got, e := w.m.Dma(w.r, stream, 64*page+k, write, b)
	if got != want || (e == api.OK) != ok {
		w.t.Fatalf("behind %s: stream %d, page %d, write %v: %d, %v; want %d, %v", w.last, stream, page, write, got, e, want, ok)
	}
	w.done[fmt.Sprint("Dma ", ok)]++
}

// same holds what is told, and every byte, against the model.
func (w *both) same() {
	w.t.Helper()
	for n := -1; n <= 16; n++ {
		root, space := -1, 0
		if w.o.there(n) {
			root = w.o.root[n] - 1
		}
		if n >= 0 && n <= 15 {
			space = w.o.streams[n]
		}
		if w.s.Root(n) != root || w.s.Space(n) != space {
			w.t.Fatalf("behind %s: %d: %d, %d; want %d, %d", w.last, n, w.s.Root(n), w.s.Space(n), root, space)
		}
		if space > 0 {
			root = w.o.root[space] - 1
		} else {
			root = -1
		}
		if w.m.Root(n) != root {
			w.t.Fatalf("behind %s: the stream %d has the table %d; want %d", w.last, n, w.m.Root(n), root)
		}
	}
	if l, want := w.s.Tables(), w.o.inUse(); !slices.Equal(l, want) {
		w.t.Fatalf("behind %s: Tables: %v; want %v", w.last, l, want)
	}
	for n := range w.o.frames() {
		if f, _ := w.r.Frame(n); !slices.Equal(f, w.o.bytes[64*n:64*n+64]) {
			w.t.Fatalf("behind %s: the frame %d: %v; want %v", w.last, n, f, w.o.bytes[64*n:64*n+64])
		}
	}
	for i, l := range w.b.Lines() {
		c := w.o.lines[i]
		if l != (api.Line{Vmid: c.of, Page: c.page, Frame: c.frame, Rights: c.rights}) {
			w.t.Fatalf("behind %s: the line %d: %+v; want %+v", w.last, i, l, c)
		}
	}
}

// sameMaps holds all mappings against the model, and each page of each space against what its tables say; no page has a table.
func (w *both) sameMaps() {
	w.t.Helper()
	if all := w.o.where(-1, -1); len(all) != len(w.o.maps) {
		w.t.Fatal("the model is wrong:", all)
	}
	tables := w.s.Tables()
	for vmid := -1; vmid <= 16; vmid++ {
		l := w.s.Mappings(vmid)
		want := w.o.where(max(vmid, 0), -1)
		if !slices.Equal(l, want) {
			w.t.Fatalf("behind %s: Mappings(%d): %v; want %v", w.last, vmid, l, want)
		}
		for _, x := range l {
			if slices.Contains(tables, x.Frame) {
				w.t.Fatalf("behind %s: %+v is a table", w.last, x)
			}
			if at, want := w.s.Where(x.Frame), w.o.where(-1, x.Frame); !slices.Equal(at, want) {
				w.t.Fatalf("behind %s: Where(%d): %v; want %v", w.last, x.Frame, at, want)
			}
		}
		if w.o.there(vmid) {
			w.sameTables(vmid, l)
		}
	}
}

func (w *both) sameTables(vmid int, l []api.Mapping) {
	w.t.Helper()
	var found []api.Mapping
	for page := range 1024 {
		if frame, rights, f := walk.Single(w.r, w.s.Root(vmid), page); f == (api.Fault{}) {
			found = append(found, api.Mapping{Vmid: vmid, Page: page, Frame: frame, Rights: rights})
		}
	}
	if !slices.Equal(found, l) {
		w.t.Fatalf("behind %s: by the tables of %d %v are found; want %v", w.last, vmid, found, l)
	}
}

// sameDevices asks how much is remembered of each stream, which then is nothing.
func (w *both) sameDevices() {
	w.t.Helper()
	for stream := range 16 {
		if n, want := w.m.Flush(stream), w.o.flush(stream); n != want {
			w.t.Fatalf("behind %s: of the stream %d %d pages are remembered; want %d", w.last, stream, n, want)
		}
	}
}

func (w *both) someVmid() int {
	return w.d.pick(1, 1, 1, 1, 2, 2, 2, 3, 3, 4, 15, 0, 16, -1)
}

func (w *both) somePage() int {
	if w.d.throw(25) == 0 {
		return w.d.pick(-1, 1024, 1<<32+3)
	}
	return 32*w.d.pick(0, 0, 0, 1, 2, 31) + w.d.pick(0, 1, 2, 3, 8, 31)
}

func (w *both) goodPage() int { return 32*w.d.pick(0, 0, 0, 1, 2, 31) + w.d.pick(0, 1, 2, 3, 8, 31) }

func (w *both) someFrame() int {
	if w.d.throw(12) == 0 {
		return w.d.pick(-1, w.o.frames(), 1000, 1023, 1024)
	}
	return w.d.throw(w.o.frames())
}

func (w *both) someStream() int { return w.d.pick(0, 0, 1, 1, 2, 7, 15, 15, 16, -1) }

func (w *both) play() {
	w.t.Helper()
	switch w.d.throw(24) {
	case 0, 1:
		w.assign(w.someFrame())
	case 2:
		if w.d.throw(3) == 0 {
			w.free(w.someVmid())
		}
	case 3, 4, 5:
		w.mapTable(w.someVmid(), w.somePage(), w.someFrame())
	case 6:
		w.unmapTable(w.someVmid(), w.somePage())
	case 7, 8, 9, 10, 11:
		w.mapFrame(w.someVmid(), w.somePage(), w.someFrame(), w.d.pick(1, 2, 3, 4, 5, 6, 7, 7, 0, 8))
	case 12:
		if len(w.o.maps) > 0 { // one that is mapped already, with other rights
			x := w.o.maps[w.d.throw(len(w.o.maps))]
			w.mapFrame(x.Vmid, x.Page, x.Frame, 1+w.d.throw(7))
		}
	case 13, 14:
		w.unmap(w.someVmid(), w.somePage())
	case 15:
		w.attach(w.someStream(), w.someVmid())
	case 16:
		if w.d.throw(3) == 0 {
			w.detach(w.someStream())
		}
	default:
		w.touch()
	}
}

// touch is an access of a thread or of a device, mostly of a page that is mapped.
func (w *both) touch() {
	w.t.Helper()
	vmid, page := w.someVmid(), w.goodPage()
	if len(w.o.maps) > 0 && w.d.throw(4) > 0 {
		x := w.o.maps[w.d.throw(len(w.o.maps))]
		vmid, page = x.Vmid, x.Page
	}
	if w.d.throw(2) == 0 {
		w.reach(vmid, page, w.d.pick(1, 2, 4), w.d.throw(8))
		return
	}
	w.dma(w.d.pick(0, 1, 2, 7, 15), page, w.d.throw(64), w.d.throw(2) == 0, byte(w.d.throw(256)))
}

func TestLongRows(t *testing.T) {
	done := map[string]int{}
	for seed := range 60 {
		w := newBoth(t, []int{16, 24, 40, 64}[seed%4], uint64(seed), done)
		for n := range 600 {
			w.play()
			w.same()
			if n%25 == 0 {
				w.sameMaps()
			}
			if n%100 == 99 {
				w.sameDevices()
			}
		}
		w.sameMaps()
	}
	met(t, done, 20)
}

// met asks whether each answer that a call may give came so often.
func met(t *testing.T, done map[string]int, often int) {
	t.Helper()
	for _, x := range []struct {
		call string
		e    []api.Errno
	}{
		{"Assign", []api.Errno{api.OK, api.ErrArg, api.ErrTable, api.ErrSpace}},
		{"Free", []api.Errno{api.OK, api.ErrSpace}},
		{"MapTable", []api.Errno{api.OK, api.ErrSpace, api.ErrArg, api.ErrMapped, api.ErrTable}},
		{"UnmapTable", []api.Errno{api.OK, api.ErrSpace, api.ErrArg, api.ErrUnmapped}},
		{"Map", []api.Errno{api.OK, api.ErrSpace, api.ErrArg, api.ErrTable, api.ErrMapped}},
		{"Unmap", []api.Errno{api.OK, api.ErrSpace, api.ErrArg, api.ErrUnmapped}},
		{"Attach", []api.Errno{api.OK, api.ErrStream, api.ErrSpace}},
		{"Detach", []api.Errno{api.OK, api.ErrStream}},
	} {
		for _, e := range x.e {
			if n := done[fmt.Sprint(x.call, " ", int(e))]; n < often {
				t.Errorf("%s with %d came %d times", x.call, int(e), n)
			}
		}
	}
	for _, call := range []string{"Reach true", "Reach false", "Dma true", "Dma false"} {
		if done[call] < often {
			t.Errorf("%s came %d times", call, done[call])
		}
	}
}

// chosen are calls of which rows are made: they meet in a few frames, and leave something to be reached or not.
func chosen() []func(w *both) {
	return []func(w *both){
		func(w *both) { w.assign(1) },
		func(w *both) { w.assign(2) },
		func(w *both) { w.assign(5) },
		func(w *both) { w.free(1) },
		func(w *both) { w.free(2) },
		func(w *both) { w.mapTable(1, 40, 2) },
		func(w *both) { w.mapTable(1, 0, 5) },
		func(w *both) { w.mapTable(2, 3, 6) },
		func(w *both) { w.unmapTable(1, 31) },
		func(w *both) { w.unmapTable(2, 0) },
		func(w *both) { w.mapFrame(1, 3, 5, 3) },
		func(w *both) { w.mapFrame(1, 3, 6, 1) },
		func(w *both) { w.mapFrame(1, 3, 5, 1) },
		func(w *both) { w.mapFrame(2, 3, 5, 2) },
		func(w *both) { w.mapFrame(1, 40, 6, 7) },
		func(w *both) { w.unmap(1, 3) },
		func(w *both) { w.unmap(2, 3) },
		func(w *both) { w.attach(0, 1) },
		func(w *both) { w.attach(0, 2) },
		func(w *both) { w.detach(0) },
	}
}

// accesses reaches all that the chosen calls may map, so that each of it is remembered, if it may be.
func (w *both) accesses() {
	w.t.Helper()
	for vmid := 1; vmid <= 2; vmid++ {
		for _, page := range []int{3, 40} {
			for _, want := range []int{1, 2} {
				w.reach(vmid, page, want, page%4*2+vmid-1)
			}
		}
	}
	w.dma(0, 3, 1, false, 0)
	w.dma(0, 3, 1, true, 200)
	w.dma(0, 40, 1, false, 0)
}

// Every row of three of the chosen calls, from no spaces on and from two that have something, with all accesses behind each.
func TestEveryShortRow(t *testing.T) {
	calls := chosen()
	done := map[string]int{}
	for begin := range 2 {
		for row := range len(calls) * len(calls) * len(calls) {
			w := newBoth(t, 8, 0, done)
			if begin == 1 {
				w.assign(1)
				w.assign(4)
				w.mapTable(1, 0, 3)
				w.mapTable(2, 0, 7)
				w.mapFrame(1, 3, 5, 3)
				w.mapFrame(2, 3, 5, 2)
				w.attach(0, 1)
				w.accesses()
			}
			rest := row
			for range 3 {
				calls[rest%len(calls)](w)
				rest /= len(calls)
				w.same()
				w.accesses()
			}
			w.same()
			w.sameDevices()
		}
	}
}
