package kernel

import (
	"testing"

	"viceroy/api"
)

// holder is the thread 1, which has the piece of 16 frames at 16 in its slot 1, the node 7 of the thread 6 in 2, its root in 3, and what else is said from 4 on.
func holder(t *testing.T, more ...api.Share) *world {
	t.Helper()
	shares := append([]api.Share{{Kind: api.Untyped}, {Kind: api.CNode, N: 1}, {Kind: api.Table}}, more...)
	return start(t, pair(shares, nil))
}

// make lets it make things, into the node 7 from a slot on.
func (w *world) make(kind, size, slot, count int) api.Errno {
	w.t.Helper()
	return w.ask(1, api.DoRetype, 1, 2, uint32(kind), uint32(size), uint32(slot), uint32(count))
}

// TestCalls asks each kind of cap with each label: only the lines of the table are there, and only with so many words.
func TestCalls(t *testing.T) {
	shares := []api.Share{{Kind: api.Untyped}, {Kind: api.CNode, N: 1}, {Kind: api.Tcb}, {Kind: api.Frame, Rights: 7}, {Kind: api.Table}, {Kind: api.Vcpu, N: 1}, {Kind: api.Stream}, {Kind: api.Irq}}
	for i, s := range shares {
		for label := range 30 {
			for many := range 7 {
				b := pair(shares, nil)
				b.Progs[0].Data, b.Progs[1].Guest = 1, true
				w := start(t, b)
				words, other, ok := wants(s.Kind, label)
				regs := []uint32{uint32(i + 1), uint32(16*label + many)}
				before := view(w.Kernel)
				call := []int{api.SysCall, api.SysSend, api.SysNBSend}[many%3]
				e := w.sys(1, call, regs...)
				switch {
				case !ok:
					w.want(e, api.ErrCall)
				case min(many, 4) < words:
					w.want(e, api.ErrArg)
				case other != 0:
					// The register 6 is 0, where nothing is.
					w.want(e, api.ErrLookup)
				}
				if e != api.OK {
					c := w.thread(1)
					c.pc, c.regs = 0, [16]uint32{}
					same(t, view(w.Kernel), before)
				}
			}
		}
	}
}

// TestOtherCap: each operation that wants another cap refuses what is none, and what is of another kind.
func TestOtherCap(t *testing.T) {
	shares := []api.Share{{Kind: api.Untyped}, {Kind: api.CNode, N: 1}, {Kind: api.Tcb}, {Kind: api.Frame, Rights: 7}, {Kind: api.Table}, {Kind: api.Vcpu, N: 1}, {Kind: api.Stream}, {Kind: api.Irq}, endpoint(all, 0), note(3, 0)}
	for i, s := range shares {
		for label := range 24 {
			words, other, ok := wants(s.Kind, label)
			if !ok || other <= 0 {
				continue
			}
			for o := range 18 {
				b := pair(shares, nil)
				b.Progs[0].Data, b.Progs[1].Guest = 1, true
				w := start(t, b)
				e := w.ask(1, label, uint32(i+1), uint32(o), make([]uint32, words)...)
				switch {
				case o > 15:
					w.want(e, api.ErrGuard)
				case o == 0 || o > len(shares):
					w.want(e, api.ErrLookup)
				case shares[o-1].Kind != other:
					w.want(e, api.ErrKind)
				case s.Kind == api.Untyped:
					// It asks what is to be made: of kind 0 nothing is.
					w.want(e, api.ErrKind)
				case e == api.ErrKind || e == api.ErrLookup:
					t.Error(s, label, o, e)
				}
			}
		}
	}
}

func TestRetypeMakes(t *testing.T) {
	for kind, wanted := range map[int]api.Cap{
		api.CNode:    {Kind: api.CNode, Radix: 4, GuardBits: 12},
		api.Endpoint: {Kind: api.Endpoint, Rights: 11},
		api.Note:     {Kind: api.Note, Rights: 3},
		api.Frame:    {Kind: api.Frame, Rights: 7},
		api.Table:    {Kind: api.Table},
	} {
		w := holder(t)
		w.want(w.make(kind, 1, 5, 3), api.OK)
		for i := range 3 {
			wanted.Obj = 16 + i
			same(t, w.slot(7, 5+i), wanted)
			up, _ := w.forest.Parent(api.Ref{Node: 7, Index: 5 + i})
			same(t, up, api.Ref{Node: 2, Index: 1})
		}
		// The last one made is the first child.
		first, _ := w.forest.First(api.Ref{Node: 2, Index: 1})
		same(t, first, api.Ref{Node: 7, Index: 7})
		same(t, w.Regions(), []api.Region{{First: 16, Frames: 16, Mark: 3}})
		_, e := w.Slot(api.Ref{Node: 18, Index: 15})
		same(t, e == api.OK, kind == api.CNode)
		// What is made next lies behind.
		w.want(w.make(api.Frame, 1, 8, 8), api.OK)
		same(t, w.slot(7, 15).Obj, 26)
		same(t, w.Regions(), []api.Region{{First: 16, Frames: 16, Mark: 11}})
		same(t, w.Units(), 0)
		w.sound()
	}
}

func TestRetypeMemory(t *testing.T) {
	w := holder(t)
	w.want(w.make(api.Endpoint, 1, 0, 1), api.OK)
	// Pieces of four frames lie at multiples of four.
	w.want(w.make(api.Untyped, 4, 1, 2), api.OK)
	same(t, []api.Cap{w.slot(7, 1), w.slot(7, 2)}, []api.Cap{{Kind: api.Untyped, Obj: 20}, {Kind: api.Untyped, Obj: 24}})
	same(t, w.Regions(), []api.Region{{First: 16, Frames: 16, Mark: 12}, {First: 20, Frames: 4}, {First: 24, Frames: 4}})
	w.want(w.make(api.Untyped, 8, 3, 1), api.ErrRoom)
	// What is made of a piece lies in it.
	move(w, 7, 2, 2, 9)
	w.want(w.ask(1, api.DoRetype, 9, 2, api.Frame, 1, 8, 4), api.OK)
	same(t, w.slot(7, 11), api.Cap{Kind: api.Frame, Obj: 27, Rights: 7})
	same(t, w.Regions()[2], api.Region{First: 24, Frames: 4, Mark: 4})
	w.want(w.ask(1, api.DoRetype, 9, 2, api.Frame, 1, 12, 1), api.ErrRoom)
	w.sound()
	// A piece that lay at its region's own first frame could not be told from it.
	w = holder(t)
	for range 2 {
		w.want(w.make(api.Untyped, 4, 1, 2), api.ErrFull)
		same(t, w.Regions(), []api.Region{{First: 16, Frames: 16}})
	}
	w.sound()
}

// TestRetypeErrors asks for the order of errors: each row has all those that stand behind its own, as far as they go together.
func TestRetypeErrors(t *testing.T) {
	const far = 1<<32 - 1
	for _, x := range []struct {
		kind, size, slot, count uint32
		e                       api.Errno
	}{
		{0, 9, 99, 99, api.ErrKind}, {api.Tcb, 1, 16, 0, api.ErrKind}, {api.Vcpu, 1, 0, 1, api.ErrKind}, {api.Stream, 1, 0, 1, api.ErrKind}, {api.Irq, 1, 0, 1, api.ErrKind}, {api.Reply, 1, 0, 1, api.ErrKind}, {12, 1, 0, 1, api.ErrKind}, {far, 1, 0, 1, api.ErrKind},
		{api.Frame, 9, 16, 1, api.ErrArg}, {api.Frame, 9, far, 1, api.ErrArg}, {api.Frame, 9, 1, 0, api.ErrArg}, {api.Frame, 9, 0, 17, api.ErrArg}, {api.Frame, 9, 15, 2, api.ErrArg}, {api.Frame, 9, 0, far, api.ErrArg}, {api.Frame, 9, far, far, api.ErrArg},
		// The slot 4 is full.
		{api.Frame, 9, 4, 1, api.ErrFull}, {api.Frame, 9, 3, 2, api.ErrFull}, {api.Frame, 9, 0, 16, api.ErrFull},
		{api.Frame, 0, 5, 9, api.ErrRoom}, {api.Frame, 2, 5, 9, api.ErrRoom}, {api.Untyped, 3, 5, 9, api.ErrRoom}, {api.Untyped, 0, 5, 1, api.ErrRoom}, {api.Untyped, 1024, 5, 1, api.ErrRoom}, {api.CNode, far, 5, 1, api.ErrRoom},
		{api.Frame, 1, 5, 9, api.ErrArg}, {api.Untyped, 4, 5, 9, api.ErrArg},
		{api.Untyped, 16, 5, 1, api.ErrRoom}, {api.Untyped, 4, 5, 4, api.ErrRoom}, {api.Untyped, 512, 5, 8, api.ErrRoom},
		{api.Untyped, 4, 5, 3, api.OK}, {api.Frame, 1, 5, 8, api.OK}, {api.Frame, 1, 15, 1, api.OK}, {api.Frame, 1, 0, 4, api.OK},
	} {
		w := holder(t)
		w.want(w.make(api.Endpoint, 1, 4, 1), api.OK)
		w.thread(1).regs = [16]uint32{}
		before := view(w.Kernel)
		e := w.ask(1, api.DoRetype, 1, 2, x.kind, x.size, x.slot, x.count)
		if e != x.e {
			t.Error(x, e)
		}
		if e != api.OK {
			w.thread(1).pc, w.thread(1).regs = 12, [16]uint32{}
			same(t, view(w.Kernel), before)
		}
	}
}

// TestRetypeNodes: a new node's cap goes into nodes of lesser numbers alone.
func TestRetypeNodes(t *testing.T) {
	w := holder(t)
	w.want(w.make(api.CNode, 1, 0, 1), api.OK)
	w.want(w.make(api.Frame, 1, 1, 1), api.OK)
	move(w, 7, 0, 2, 8)
	// The node 16 takes the node 18's cap.
	w.want(w.ask(1, api.DoRetype, 1, 8, api.CNode, 1, 0, 1), api.OK)
	same(t, w.slot(16, 0), nodeCap(18))
	// A region below a node: the piece that is given there is too low.
	b := pair([]api.Share{{Kind: api.Untyped}, {Kind: api.CNode, N: 1}}, nil)
	w = start(t, b)
	w.want(w.make(api.Untyped, 8, 0, 1), api.ErrFull)
	w.want(w.make(api.Untyped, 1, 0, 1), api.ErrFull)
	w.want(w.make(api.Endpoint, 1, 0, 1), api.OK)
	w.want(w.make(api.Untyped, 1, 1, 1), api.OK)
	w.want(w.make(api.CNode, 1, 2, 1), api.OK)
	move(w, 7, 1, 2, 8)
	move(w, 7, 2, 2, 9)
	before := w.Regions()
	w.want(w.ask(1, api.DoRetype, 8, 9, api.CNode, 1, 3, 1), api.ErrDerive)
	same(t, w.Regions(), before)
	w.want(w.ask(1, api.DoRetype, 8, 2, api.CNode, 1, 3, 1), api.OK)
	same(t, w.slot(7, 3), nodeCap(17))
	w.sound()
}

// TestResetStops: a region comes back behind six frames an event, cleared; what is asked for then is made.
func TestResetStops(t *testing.T) {
	w := holder(t)
	w.want(w.make(api.Endpoint, 1, 0, 8), api.OK)
	w.want(w.make(api.Frame, 1, 8, 5), api.OK)
	for i := range 13 {
		w.memory.Store(64*(16+i), 4, 7)
	}
	for w.Kernel.held(api.Ref{Node: 7, Index: 8}).Kind != api.Null || w.Kernel.held(api.Ref{Node: 7, Index: 0}).Kind != api.Null {
		for i := range 16 {
			w.empty(api.Ref{Node: 7, Index: i})
			w.units = 0
		}
	}
	for i, left := range []int{7, 1, 0} {
		e := w.make(api.Note, 1, 3, 1)
		c, _ := w.Cpu(1)
		if i == 2 {
			w.want(e, api.OK)
			same(t, []any{w.Units(), c.Pc}, []any{1, 12})
			continue
		}
		w.want(e, api.ErrAgain)
		same(t, []any{w.Units(), w.Regions()[0].Mark, c.Pc, c.Regs[15], w.Current()}, []any{6, left, 8, uint32(0), 1})
		for n := range 13 {
			x, _ := w.Load(64*(16+n), 4)
			same(t, x == 0, n >= left)
		}
	}
	same(t, w.slot(7, 3), api.Cap{Kind: api.Note, Obj: 16, Rights: 3})
	same(t, w.Regions(), []api.Region{{First: 16, Frames: 16, Mark: 1}})
	w.sound()
}

// TestResetAtError: what was reset stays, though what was asked for cannot be made.
func TestResetAtError(t *testing.T) {
	for _, x := range []struct {
		size, slot, count uint32
		e                 api.Errno
		left              int
	}{{1, 0, 9, api.ErrArg, 0}, {2, 0, 1, api.ErrRoom, 0}, {1, 16, 1, api.ErrArg, 5}, {1, 15, 2, api.ErrArg, 5}} {
		w := holder(t)
		w.want(w.make(api.Endpoint, 1, 0, 5), api.OK)
		for i := range 5 {
			w.empty(api.Ref{Node: 7, Index: i})
		}
		w.want(w.ask(1, api.DoRetype, 1, 2, api.Frame, x.size, x.slot, x.count), x.e)
		same(t, w.Regions()[0].Mark, x.left)
		same(t, w.Units(), 5-x.left)
	}
	// With a child nothing is reset.
	w := holder(t)
	w.want(w.make(api.Endpoint, 1, 0, 5), api.OK)
	for i := range 4 {
		w.empty(api.Ref{Node: 7, Index: i})
	}
	w.want(w.make(api.Endpoint, 1, 0, 1), api.OK)
	same(t, w.slot(7, 0).Obj, 21)
	same(t, w.Units(), 0)
}

func TestCopyMintMove(t *testing.T) {
	more := []api.Share{endpoint(all, 0), note(3, 9), {Kind: api.Tcb}, {Kind: api.Stream}, endpoint(all, 5)}
	const ep, nt, tcb, stream, badged = 4, 5, 6, 7, 8
	for _, x := range []struct {
		label int
		other uint32
		words []uint32
		e     api.Errno
		c     api.Cap
	}{
		{api.DoCopy, ep, []uint32{16, 11}, api.ErrArg, api.Cap{}},
		{api.DoCopy, ep, []uint32{1<<32 - 1, 11}, api.ErrArg, api.Cap{}},
		{api.DoCopy, 1, []uint32{15, 11}, api.ErrFull, api.Cap{}},
		{api.DoCopy, 1, []uint32{3, 11}, api.ErrDerive, api.Cap{}},
		{api.DoCopy, stream, []uint32{3, 11}, api.ErrDerive, api.Cap{}},
		{api.DoCopy, 3, []uint32{3, 11}, api.ErrDerive, api.Cap{}},
		{api.DoCopy, 2, []uint32{3, 11}, api.ErrDerive, api.Cap{}},
		{api.DoCopy, 2, []uint32{15, 11}, api.ErrFull, api.Cap{}},
		{api.DoCopy, ep, []uint32{3, 11}, api.OK, api.Cap{Kind: api.Endpoint, Obj: 11, Rights: 11}},
		{api.DoCopy, ep, []uint32{3, 0xfffffff2}, api.OK, api.Cap{Kind: api.Endpoint, Obj: 11, Rights: 2}},
		{api.DoCopy, nt, []uint32{0, 9}, api.OK, api.Cap{Kind: api.Note, Obj: 13, Rights: 1, Badge: 9}},
		{api.DoCopy, tcb, []uint32{14, 0}, api.OK, api.Cap{Kind: api.Tcb, Obj: 1}},
		{api.DoMint, 1, []uint32{16, 11, 0}, api.ErrArg, api.Cap{}},
		{api.DoMint, 1, []uint32{15, 11, 0}, api.ErrDerive, api.Cap{}},
		{api.DoMint, badged, []uint32{15, 11, 1}, api.ErrDerive, api.Cap{}},
		{api.DoMint, ep, []uint32{15, 11, 1 << 20}, api.ErrArg, api.Cap{}},
		{api.DoMint, ep, []uint32{15, 11, 1}, api.ErrFull, api.Cap{}},
		{api.DoMint, 2, []uint32{15, 0, 0}, api.ErrFull, api.Cap{}},
		{api.DoMint, 2, []uint32{3, 0, 0}, api.ErrDerive, api.Cap{}},
		{api.DoMint, ep, []uint32{3, 10, 1<<20 - 1}, api.OK, api.Cap{Kind: api.Endpoint, Obj: 11, Rights: 10, Badge: 1<<20 - 1}},
		{api.DoMint, badged, []uint32{3, 3, 0}, api.OK, api.Cap{Kind: api.Endpoint, Obj: 11, Rights: 3, Badge: 5}},
		{api.DoMint, tcb, []uint32{3, 3, 1 << 31}, api.OK, api.Cap{Kind: api.Tcb, Obj: 1}},
		{api.DoMove, 1, []uint32{16}, api.ErrArg, api.Cap{}},
		{api.DoMove, 1, []uint32{15}, api.ErrFull, api.Cap{}},
		{api.DoMove, 2, []uint32{15}, api.ErrFull, api.Cap{}},
		{api.DoMove, 2, []uint32{3}, api.ErrDerive, api.Cap{}},
		{api.DoMove, 1, []uint32{3}, api.OK, api.Cap{Kind: api.Untyped, Obj: 16}},
		{api.DoMove, ep, []uint32{3}, api.OK, api.Cap{Kind: api.Endpoint, Obj: 11, Rights: 11}},
	} {
		w := holder(t, more...)
		// The slot 15 of the node 7 is full.
		w.want(w.make(api.Frame, 1, 15, 1), api.OK)
		from := api.Ref{Node: 2, Index: int(x.other)}
		up, under := w.forest.Parent(from)
		w.thread(1).regs = [16]uint32{}
		before := view(w.Kernel)
		e := w.ask(1, x.label, 2, x.other, x.words...)
		w.want(e, x.e)
		if x.e != api.OK {
			w.thread(1).pc, w.thread(1).regs = 12, [16]uint32{}
			same(t, view(w.Kernel), before)
			continue
		}
		to := api.Ref{Node: 7, Index: int(x.words[0])}
		same(t, w.held(to), x.c)
		above, ok := w.forest.Parent(to)
		if x.label == api.DoMove {
			same(t, w.held(from), api.Cap{})
			same(t, []any{above, ok}, []any{up, under})
		} else {
			same(t, []any{above, ok}, []any{from, true})
		}
		w.sound()
	}
}

// TestMoveKeeps: what a slot has mapped, and its children, go with its cap; a copy has mapped nothing.
func TestMoveKeeps(t *testing.T) {
	w := holder(t)
	w.want(w.make(api.Frame, 1, 0, 1), api.OK)
	move(w, 7, 0, 2, 8)
	w.want(w.ask(1, api.DoMap, 8, 3, 20, 3), api.OK)
	w.want(w.ask(1, api.DoCopy, 2, 8, 5, 7), api.OK)
	_, ok := w.Mapped(api.Ref{Node: 7, Index: 5})
	same(t, ok, false)
	w.want(w.ask(1, api.DoMove, 2, 8, 6), api.OK)
	m, ok := w.Mapped(api.Ref{Node: 7, Index: 6})
	same(t, []any{m, ok}, []any{api.Mapping{Vmid: 1, Page: 20, Frame: 16, Rights: 3}, true})
	_, ok = w.Mapped(api.Ref{Node: 2, Index: 8})
	same(t, ok, false)
	up, _ := w.forest.Parent(api.Ref{Node: 7, Index: 5})
	same(t, up, api.Ref{Node: 7, Index: 6})
	w.sound()
	// A guard stays in a node's minted cap.
	w.want(w.make(api.CNode, 1, 1, 1), api.OK)
	w.slots.Put(api.Ref{Node: 7, Index: 1}, api.Cap{Kind: api.CNode, Obj: 17, Radix: 4, GuardBits: 3, Guard: 5})
	move(w, 7, 1, 2, 8)
	w.want(w.ask(1, api.DoMint, 2, 8, 2, 0, 77), api.OK)
	same(t, w.slot(7, 2), api.Cap{Kind: api.CNode, Obj: 17, Radix: 4, GuardBits: 3, Guard: 5})
}

// TestThreadsOperations has the thread 1 ask for the thread 6, which it has in the slot 4, and itself, in 5.
func TestThreadsOperations(t *testing.T) {
	ask := func(b api.Boot) (*world, func(label int, words ...uint32) api.Errno) {
		w := start(t, b)
		return w, func(label int, words ...uint32) api.Errno { return w.ask(1, label, 4, 0, words...) }
	}
	b := pair([]api.Share{endpoint(all, 0), endpoint(all, 0), note(3, 0), {Kind: api.Tcb, N: 1}, {Kind: api.Tcb}}, []api.Share{endpoint(all, 1), note(3, 0)})
	w, on6 := ask(b)
	w.thread(6).regs, w.thread(6).pc = [16]uint32{1, 2, 3, 15: 99}, 0x1234
	for n, wanted := range map[uint32]uint32{0: 1, 2: 3, 15: 99, 16: 0x1234, 14: 0} {
		w.want(on6(api.DoReadReg, n), api.OK)
		same(t, w.regs(1)[2], wanted)
	}
	w.want(on6(api.DoReadReg, 17), api.ErrArg)
	w.want(on6(api.DoReadReg, 1<<32-1), api.ErrArg)
	same(t, w.regs(1)[2], uint32(1<<32-1))
	// Its own: Pc has gone on already.
	w.want(w.ask(1, api.DoReadReg, 5, 0, 16), api.OK)
	same(t, w.regs(1)[2], uint32(12))
	w.want(w.ask(1, api.DoReadReg, 5, 0, 0), api.OK)
	same(t, w.regs(1)[2], uint32(5))
	w.want(on6(api.DoWriteReg, 3, 1<<32-2), api.OK)
	w.want(on6(api.DoWriteReg, 15, 8), api.OK)
	w.want(on6(api.DoWriteReg, 16, 0xabcd1238), api.OK)
	w.want(on6(api.DoWriteReg, 17, 1), api.ErrArg)
	w.want(w.ask(1, api.DoWriteReg, 5, 0, 3, 1), api.ErrArg)
	c, _ := w.Cpu(6)
	same(t, c, api.Cpu{Regs: [16]uint32{1, 2, 3, 1<<32 - 2, 15: 8}, Pc: 0x1238})
	same(t, w.Current(), 1)
}

func TestPriorities(t *testing.T) {
	b := pair([]api.Share{{Kind: api.Tcb, N: 1}, {Kind: api.Tcb}}, nil)
	b.Progs[0].Priority, b.Progs[1].Priority = 7, 5
	w := start(t, b)
	w.want(w.ask(1, api.DoPriority, 1, 0, 8), api.ErrRights)
	w.want(w.ask(1, api.DoPriority, 1, 0, 64), api.ErrRights)
	w.want(w.ask(1, api.DoPriority, 1, 0, 7), api.OK)
	task, _ := w.Task(6)
	same(t, []any{task.Priority, w.Current()}, []any{7, 1})
	w.want(w.ask(1, api.DoPriority, 2, 0, 3), api.OK)
	// It is less urgent now than the other one.
	same(t, w.Current(), 6)
	task, _ = w.Task(1)
	same(t, task.Priority, 3)
	w.thread(6).pc = atNop
	b.Progs[0].Priority = 63
	w = start(t, b)
	w.want(w.ask(1, api.DoPriority, 1, 0, 64), api.ErrRights)
	w.want(w.ask(1, api.DoPriority, 1, 0, 63), api.OK)
}

// TestSuspendAndResume goes through all states that a thread may be in.
func TestSuspendAndResume(t *testing.T) {
	states := map[string]func(w *world){
		"ready":    func(w *world) {},
		"receives": func(w *world) { w.want(w.sys(6, api.SysRecv, 1), api.OK) },
		"sends":    func(w *world) { w.want(w.sys(6, api.SysSend, 1, 0), api.OK) },
		"listens":  func(w *world) { w.want(w.sys(6, api.SysRecv, 2), api.OK) },
		"calls": func(w *world) {
			w.want(w.sys(6, api.SysCall, 1, 0), api.OK)
			w.want(w.sys(1, api.SysRecv, 1), api.OK)
		},
		"faults": func(w *world) { w.at(6, 0) },
		"faults, and is told": func(w *world) {
			w.at(6, 0)
			w.want(w.sys(1, api.SysRecv, 1), api.OK)
		},
		"is off": func(w *world) {
			w.thread(6).handler = 9
			w.at(6, 0)
		},
	}
	for name, enter := range states {
		for _, label := range []int{api.DoSuspend, api.DoResume} {
			b := pair([]api.Share{endpoint(all, 0), {Kind: api.Tcb, N: 1}}, []api.Share{endpoint(all, 1), note(3, 0)})
			b.Progs[1].Handler = 1
			w := start(t, b)
			enter(w)
			before, _ := w.Cpu(6)
			w.want(w.ask(1, label, 2, 0), api.OK)
			after, _ := w.Cpu(6)
			if before != after {
				t.Error(name, before, after)
			}
			w.is(6, api.Inactive, -1, label == api.DoSuspend)
			same(t, w.thread(6).faulted, false)
			same(t, len(w.mail.Waiting(11))+len(w.mail.Waiting(12)), 0)
			w.want(w.sys(1, api.SysReply, 1, 0), api.ErrReply)
			w.sound()
		}
	}
}

// TestSuspendItself: it is off at once, and goes on behind the syscall when it is resumed.
func TestSuspendItself(t *testing.T) {
	w := start(t, pair([]api.Share{{Kind: api.Tcb}}, []api.Share{{Kind: api.Tcb}}))
	w.want(w.ask(1, api.DoSuspend, 1, 0), api.OK)
	w.is(1, api.Inactive, -1, true)
	same(t, w.Current(), 6)
	w.want(w.ask(6, api.DoResume, 1, 0), api.OK)
	w.is(1, api.Inactive, -1, false)
	c, _ := w.Cpu(1)
	same(t, []any{c.Pc, c.Regs[15]}, []any{12, uint32(0)})
	w.want(w.ask(6, api.DoResume, 1, 0), api.OK)
	w.want(w.ask(1, api.DoResume, 1, 0), api.OK)
	w.is(1, api.Inactive, -1, false)
}

func TestVcpus(t *testing.T) {
	b := pair([]api.Share{{Kind: api.Vcpu, N: 1}}, nil)
	b.Progs[1].Guest, b.Progs[1].Code = true, code("nop\nmrs r1, 3\nmsr r1, 4\njmp 0")
	w := start(t, b)
	w.want(w.ask(1, api.DoInject, 1, 0, 64, 0, 0), api.ErrArg)
	w.want(w.ask(1, api.DoInject, 1, 0, 0, 256, 0), api.ErrArg)
	w.want(w.ask(1, api.DoInject, 1, 0, 3, 255, 0), api.OK)
	w.want(w.ask(1, api.DoInject, 1, 0, 3, 0, 1), api.ErrPending)
	w.want(w.ask(1, api.DoInject, 1, 0, 63, 0, 1<<31), api.OK)
	same(t, w.Virtual(6), []api.Lr{{Id: 63, Pending: true, Level: true}, {Id: 3, Priority: 255, Pending: true}})
	for n, wanted := range map[uint32]api.Errno{0: api.OK, 5: api.OK, 6: api.ErrArg, 7: api.ErrArg, 8: api.ErrArg, 1<<32 - 1: api.ErrArg} {
		w.want(w.ask(1, api.DoWriteSys, 1, 0, n, 1<<31+n), wanted)
	}
	for n, wanted := range map[uint32]uint32{0: 1 << 31, 1: 0, 5: 1<<31 + 5, 6: 11, 7: 0} {
		w.want(w.ask(1, api.DoReadSys, 1, 0, n), api.OK)
		same(t, w.regs(1)[2], wanted)
	}
	w.want(w.ask(1, api.DoReadSys, 1, 0, 8), api.ErrArg)
	same(t, w.regs(1)[2], uint32(8))
	// While it is loaded, it is the bank's register that is written, and read.
	w.want(w.ask(1, api.DoWriteSys, 1, 0, 0, 0), api.OK)
	w.at(6, 0)
	w.want(w.ask(1, api.DoWriteSys, 1, 0, 3, 77), api.OK)
	w.at(6, 4)
	w.at(6, 8)
	same(t, w.regs(6)[1], uint32(77))
	w.want(w.ask(1, api.DoReadSys, 1, 0, 4), api.OK)
	same(t, w.regs(1)[2], uint32(77))
}

func TestLines(t *testing.T) {
	w := start(t, pair([]api.Share{note(api.Read, 4), note(3, 2), {Kind: api.Irq, N: 3}, {Kind: api.Irq, N: 9}, note(api.Write, 8)}, []api.Share{note(3, 0)}))
	irq := func(n int) {
		x, e := w.Event(api.Event{Kind: api.EvIrq, N: n})
		same(t, []any{x, e}, []any{0, api.OK})
	}
	told := func(wanted uint32) {
		t.Helper()
		w.want(w.sys(6, api.SysNBRecv, 1), api.OK)
		same(t, w.regs(6)[0], wanted)
	}
	// A line that is not enabled is not heard, but when it is.
	irq(3)
	told(0)
	w.want(w.ask(1, api.DoAck, 3, 0), api.ErrActive)
	w.want(w.ask(1, api.DoSetNote, 3, 1), api.ErrRights)
	same(t, w.slot(0, 3), api.Cap{})
	w.want(w.ask(1, api.DoSetNote, 3, 2), api.OK)
	same(t, w.slot(0, 3), api.Cap{Kind: api.Note, Obj: 13, Rights: 3, Badge: 2})
	up, _ := w.forest.Parent(api.Ref{Node: 0, Index: 3})
	same(t, []any{up, w.Units()}, []any{api.Ref{Node: 2, Index: 2}, 0})
	told(2)
	// It is served: till its end none is heard, whichever.
	w.want(w.ask(1, api.DoSetNote, 4, 5), api.OK)
	irq(3)
	irq(9)
	told(0)
	w.want(w.ask(1, api.DoAck, 4, 0), api.ErrActive)
	w.want(w.ask(1, api.DoAck, 3, 0), api.OK)
	told(2)
	w.want(w.ask(1, api.DoAck, 3, 0), api.OK)
	told(8)
	w.want(w.ask(1, api.DoAck, 4, 0), api.OK)
	told(0)
	// Another notification takes the place of the one before.
	w.want(w.ask(1, api.DoSetNote, 3, 5), api.OK)
	same(t, w.slot(0, 3), api.Cap{Kind: api.Note, Obj: 13, Rights: 2, Badge: 8})
	same(t, len(w.forest.Descendants(api.Ref{Node: 2, Index: 2})), 0)
	irq(3)
	told(8)
	w.sound()
}

// TestLineWithoutNote: an interrupt that nobody is to be told of is ended at once, and keeps no other from being heard.
func TestLineWithoutNote(t *testing.T) {
	w := start(t, pair([]api.Share{note(3, 2), {Kind: api.Irq, N: 3}, {Kind: api.Irq, N: 9}}, []api.Share{note(3, 0)}))
	w.want(w.ask(1, api.DoSetNote, 2, 1), api.OK)
	w.want(w.ask(1, api.DoSetNote, 3, 1), api.OK)
	w.empty(api.Ref{Node: 0, Index: 3})
	w.Event(api.Event{Kind: api.EvIrq, N: 3})
	w.want(w.ask(1, api.DoAck, 2, 0), api.ErrActive)
	w.Event(api.Event{Kind: api.EvIrq, N: 9})
	w.want(w.sys(6, api.SysRecv, 1), api.OK)
	same(t, w.regs(6)[0], uint32(2))
	// Both at once: the first is ended, the second told.
	w.want(w.ask(1, api.DoAck, 3, 0), api.OK)
	w.lines.Raise(9)
	w.Event(api.Event{Kind: api.EvIrq, N: 3})
	w.want(w.sys(6, api.SysRecv, 1), api.OK)
	same(t, w.regs(6)[0], uint32(2))
}
