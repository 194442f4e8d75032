package kernel

import (
	"testing"

	"viceroy/api"
)

// mapper is a holder whose node has, from 8 on, three frames (16 to 18), and two tables (19, 20), besides both threads' roots in 3 and 4. Each thread has a frame of data at its page 1.
func mapper(t *testing.T) *world {
	t.Helper()
	b := pair([]api.Share{{Kind: api.Untyped}, {Kind: api.CNode, N: 1}, {Kind: api.Table}, {Kind: api.Table, N: 1}, {Kind: api.Frame, N: 1, Rights: 3}, {Kind: api.Stream, N: 5}}, nil)
	b.Progs[0].Data, b.Progs[1].Data, b.Notes = 1, 1, 1
	w := start(t, b)
	w.want(w.make(api.Frame, 1, 0, 3), api.OK)
	w.want(w.make(api.Table, 1, 3, 2), api.OK)
	for i := range 5 {
		move(w, 8, i, 2, 8+i)
	}
	return w
}

// Where mapper has what.
const (
	rootA, rootB, dataB, stream5          = 3, 4, 5, 6
	frameA, frameB, frameC, tabA, tabB, x = 8, 9, 10, 11, 12, 13
)

func (w *world) mapped(index int) api.Mapping {
	m, _ := w.Mapped(api.Ref{Node: 2, Index: index})
	return m
}

func TestMap(t *testing.T) {
	w := mapper(t)
	// The threads 1 and 7, of the spaces 1 and 2; the data is in 6 and 12.
	w.want(w.ask(1, api.DoMap, frameA, rootB, 9, 3), api.OK)
	same(t, w.mapped(frameA), api.Mapping{Vmid: 2, Page: 9, Frame: 16, Rights: 3})
	same(t, w.Mappings(2)[2], api.Mapping{Vmid: 2, Page: 9, Frame: 16, Rights: 3})
	// The same page again, with other rights: those that the cap has.
	w.want(w.ask(1, api.DoMap, frameA, rootB, 9, 0xfffffff5), api.OK)
	same(t, w.mapped(frameA), api.Mapping{Vmid: 2, Page: 9, Frame: 16, Rights: 5})
	same(t, w.Mappings(2)[2].Rights, 5)
	w.want(w.ask(1, api.DoMap, dataB, rootA, 9, 7), api.OK)
	same(t, w.mapped(dataB), api.Mapping{Vmid: 1, Page: 9, Frame: 12, Rights: 3})
	same(t, len(w.Mappings(1)), 3)
	w.sound()
	// A thread reaches it.
	w.thread(1).regs[4] = 9 * 64
	w.memory.Store(12*64, 4, 99)
	w.memory.Store(5*64, 4, 0x07340000)
	w.at(1, 0)
	same(t, w.regs(1)[3], uint32(99))
}

func TestMapErrors(t *testing.T) {
	for _, y := range []struct {
		c, other     uint32
		page, rights uint32
		e            api.Errno
	}{
		{frameA, tabA, 5000, 0, api.ErrSpace},
		{frameB, tabA, 0, 0, api.ErrSpace},
		// The slot has mapped the page 9 of the space 2.
		{frameA, rootB, 10, 3, api.ErrMapped}, {frameA, rootA, 9, 3, api.ErrMapped}, {frameA, rootB, 5000, 3, api.ErrMapped}, {frameA, rootB, 10, 0, api.ErrMapped},
		// The pages 0, 1 and 9 are mapped, by no slot, and by another one.
		{frameB, rootB, 0, 3, api.ErrMapped}, {frameB, rootB, 1, 0, api.ErrMapped}, {frameB, rootB, 9, 3, api.ErrMapped}, {dataB, rootB, 1, 3, api.ErrMapped},
		{frameB, rootB, 1024, 3, api.ErrArg}, {frameB, rootB, 1<<32 - 1, 3, api.ErrArg}, {frameB, rootB, 40, 0, api.ErrArg}, {frameB, rootB, 10, 8, api.ErrArg}, {dataB, rootB, 10, 4, api.ErrArg},
		{frameB, rootB, 40, 3, api.ErrTable}, {frameB, rootB, 1023, 3, api.ErrTable},
		{frameA, rootB, 9, 8, api.ErrArg},
		{frameB, rootB, 31, 7, api.OK}, {frameA, rootB, 9, 7, api.OK}, {frameB, rootA, 9, 1, api.OK},
	} {
		w := mapper(t)
		w.want(w.ask(1, api.DoMap, frameA, rootB, 9, 3), api.OK)
		// Whatever of it is copied: a copy is another slot.
		w.thread(1).regs = [16]uint32{}
		before := view(w.Kernel)
		if e := w.ask(1, api.DoMap, y.c, y.other, y.page, y.rights); e != y.e {
			t.Error(y, e)
		}
		if y.e != api.OK {
			w.thread(1).pc, w.thread(1).regs = 12, [16]uint32{}
			same(t, view(w.Kernel), before)
		}
		w.sound()
	}
}

func TestUnmap(t *testing.T) {
	w := mapper(t)
	w.want(w.ask(1, api.DoUnmap, frameA, 0), api.ErrUnmapped)
	w.want(w.ask(1, api.DoMap, frameA, rootB, 9, 3), api.OK)
	// A copy has mapped nothing.
	w.want(w.ask(1, api.DoCopy, 2, frameA, 0, 7), api.OK)
	move(w, 8, 0, 2, x)
	w.want(w.ask(1, api.DoUnmap, x, 0), api.ErrUnmapped)
	w.want(w.ask(1, api.DoMap, x, rootB, 9, 3), api.ErrMapped)
	w.want(w.ask(1, api.DoMap, x, rootB, 10, 1), api.OK)
	w.want(w.ask(1, api.DoUnmap, frameA, 0), api.OK)
	same(t, len(w.Mappings(2)), 3)
	same(t, w.mapped(frameA), api.Mapping{})
	w.want(w.ask(1, api.DoUnmap, frameA, 0), api.ErrUnmapped)
	same(t, w.mapped(x), api.Mapping{Vmid: 2, Page: 10, Frame: 16, Rights: 1})
	w.want(w.ask(1, api.DoMap, frameA, rootA, 9, 3), api.OK)
	w.sound()
}

func TestTables(t *testing.T) {
	w := mapper(t)
	w.want(w.ask(1, api.DoMapTable, tabA, tabB, 9999), api.ErrSpace)
	w.want(w.ask(1, api.DoMapTable, tabA, rootB, 1024), api.ErrArg)
	w.want(w.ask(1, api.DoMapTable, tabA, rootB, 1<<32-1), api.ErrArg)
	w.want(w.ask(1, api.DoMapTable, tabA, rootB, 31), api.ErrMapped)
	w.want(w.ask(1, api.DoMapTable, rootA, rootB, 32), api.ErrTable)
	w.want(w.ask(1, api.DoUnTable, tabA, 0), api.ErrUnmapped)
	same(t, w.mapped(tabA), api.Mapping{})
	w.want(w.ask(1, api.DoMapTable, tabA, rootB, 100), api.OK)
	same(t, w.mapped(tabA), api.Mapping{Vmid: 2, Page: 96, Frame: 19})
	same(t, w.Tables(), []int{3, 4, 9, 10, 19})
	w.want(w.ask(1, api.DoMapTable, tabB, rootB, 127), api.ErrMapped)
	w.want(w.ask(1, api.DoMapTable, tabA, rootA, 100), api.ErrTable)
	w.want(w.ask(1, api.DoMapTable, tabB, rootB, 1023), api.OK)
	same(t, w.mapped(tabB), api.Mapping{Vmid: 2, Page: 992, Frame: 20})
	// What is mapped by a table goes with it, and nothing else.
	w.want(w.ask(1, api.DoMap, frameA, rootB, 127, 3), api.OK)
	w.want(w.ask(1, api.DoMap, frameB, rootB, 1000, 3), api.OK)
	w.want(w.ask(1, api.DoMap, frameC, rootB, 2, 3), api.OK)
	w.sound()
	w.want(w.ask(1, api.DoUnTable, tabA, 0), api.OK)
	same(t, []api.Mapping{w.mapped(tabA), w.mapped(frameA)}, make([]api.Mapping, 2))
	same(t, w.mapped(frameB).Page, 1000)
	same(t, w.mapped(frameC).Page, 2)
	same(t, w.mapped(tabB).Page, 992)
	same(t, w.Tables(), []int{3, 4, 9, 10, 20})
	w.sound()
	w.want(w.ask(1, api.DoUnTable, tabA, 0), api.ErrUnmapped)
	// A root is not mapped: it ends with its cap alone.
	w.want(w.ask(1, api.DoUnTable, rootB, 0), api.ErrUnmapped)
	w.want(w.ask(1, api.DoUnTable, tabB, 0), api.OK)
	w.want(w.ask(1, api.DoMapTable, tabB, rootA, 32), api.OK)
	w.want(w.ask(1, api.DoMap, frameA, rootA, 33, 3), api.OK)
	w.sound()
}

func TestAssign(t *testing.T) {
	w := mapper(t)
	w.want(w.ask(1, api.DoAssign, rootA, 0), api.ErrTable)
	w.want(w.ask(1, api.DoAssign, tabA, 0, 7), api.OK)
	same(t, w.regs(1)[2], uint32(3))
	w.want(w.ask(1, api.DoAssign, tabA, 0, 7), api.ErrTable)
	same(t, w.regs(1)[2], uint32(7))
	same(t, []any{w.Tables(), w.Vmid(1), w.Vmid(7)}, []any{[]int{3, 4, 9, 10, 19}, 1, 2})
	w.want(w.ask(1, api.DoMapTable, tabB, tabA, 0), api.OK)
	w.want(w.ask(1, api.DoMap, frameA, tabA, 5, 1), api.OK)
	same(t, w.Mappings(3), []api.Mapping{{Vmid: 3, Page: 5, Frame: 16, Rights: 1}})
	w.want(w.ask(1, api.DoUnTable, tabA, 0), api.ErrUnmapped)
	w.want(w.ask(1, api.DoAssign, tabB, 0, 7), api.ErrTable)
	w.sound()
	// There are fifteen spaces.
	for _, vmid := range []int{4, 5, 6, 7, 8, 9, 10, 11, 12, 13, 14, 15} {
		got, e := w.spaces.Assign(24 + vmid)
		same(t, []any{got, e}, []any{vmid, api.OK})
	}
	w.want(w.ask(1, api.DoUnTable, tabB, 0), api.OK)
	w.want(w.ask(1, api.DoAssign, tabB, 0), api.ErrSpace)
}

// TestDevice is the document's example 9: behind a detachment it is a fault, and recorded.
func TestDevice(t *testing.T) {
	w := mapper(t)
	dma := func(at int, write bool, value uint32) (int, api.Errno) {
		return w.Event(api.Event{Kind: api.EvDma, N: 5, At: at, Write: write, Value: value})
	}
	n, e := dma(64, true, 200)
	same(t, []any{n, e}, []any{0, api.ErrFault})
	w.want(w.ask(1, api.DoAttach, stream5, tabA), api.ErrSpace)
	w.want(w.ask(1, api.DoAttach, stream5, rootB), api.OK)
	same(t, w.Stream(5), 2)
	n, e = dma(64+3, true, 200)
	same(t, []any{n, e}, []any{200, api.OK})
	n, e = dma(64+3, false, 9)
	same(t, []any{n, e}, []any{200, api.OK})
	b, _ := w.Load(12*64+3, 1)
	same(t, b, uint32(200))
	n, e = dma(0, true, 1)
	same(t, []any{n, e}, []any{0, api.ErrFault})
	n, e = dma(128, false, 1)
	same(t, []any{n, e}, []any{0, api.ErrFault})
	w.want(w.ask(1, api.DoDetach, stream5, 0), api.OK)
	same(t, w.Stream(5), 0)
	n, e = dma(64, true, 7)
	same(t, []any{n, e}, []any{0, api.ErrFault})
	same(t, w.devices.Records()[3], api.Record{Stream: 5, Page: 1, Kind: api.FaultMissing, Write: true})
	w.want(w.ask(1, api.DoDetach, stream5, 0), api.OK)
	w.sound()
}

// TestBuffersAreNotSeen: what was reached a moment ago is not, when it is unmapped, or has fewer rights, whatever is remembered or forgotten between.
func TestBuffersAreNotSeen(t *testing.T) {
	for evict := range 9 {
		w := mapper(t)
		w.want(w.ask(1, api.DoAttach, stream5, rootA), api.OK)
		w.want(w.ask(1, api.DoMap, frameA, rootA, 9, 3), api.OK)
		w.memory.Store(5*64, 4, 0x08340000)
		touch := func(wanted bool) {
			t.Helper()
			if evict < 8 {
				w.Event(api.Event{Kind: api.EvEvict, N: evict})
			}
			_, e := w.Event(api.Event{Kind: api.EvDma, N: 5, At: 9 * 64, Write: true, Value: 7})
			same(t, e == api.OK, wanted)
			th := w.as(1)
			th.regs[3], th.regs[4], th.pc = 8, 9*64, 0
			_, e = w.Event(api.Event{Kind: api.EvStep, At: 1})
			same(t, e == api.OK, wanted)
			th.off = false
			w.queue.Wake(1)
			w.queue.Settle()
			wanted0 := uint32(0)
			if wanted {
				wanted0 = 8
			}
			b, _ := w.Load(16*64, 4)
			same(t, b, wanted0)
			w.memory.Store(16*64, 4, 0)
		}
		touch(true)
		w.want(w.ask(1, api.DoMap, frameA, rootA, 9, 1), api.OK)
		touch(false)
		w.want(w.ask(1, api.DoMap, frameA, rootA, 9, 2), api.OK)
		touch(true)
		w.want(w.ask(1, api.DoUnmap, frameA, 0), api.OK)
		touch(false)
	}
}
