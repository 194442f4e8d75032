package kernel

import (
	"slices"
	"testing"

	"viceroy/api"
)

// TestNodeOfEight is the document's example 8, and what is left at each moment.
func TestNodeOfEight(t *testing.T) {
	w := holder(t)
	w.want(w.make(api.CNode, 1, 0, 1), api.OK)
	move(w, 7, 0, 2, 8)
	w.want(w.ask(1, api.DoRetype, 1, 8, api.Endpoint, 1, 3, 8), api.OK)
	move(w, 2, 8, 7, 0)
	w.want(w.ask(1, api.DoDelete, 2, 0, 0), api.ErrAgain)
	c, _ := w.Cpu(1)
	same(t, []any{w.Units(), c.Pc, w.Current()}, []any{6, 8, 1})
	// Those of the greatest indices went first.
	same(t, []int{w.slot(16, 3).Kind, w.slot(16, 4).Kind, w.slot(16, 5).Kind, w.slot(7, 0).Kind}, []int{api.Endpoint, api.Endpoint, 0, api.CNode})
	// The same instruction again: nothing has changed but what is done.
	n, e := w.Event(api.Event{Kind: api.EvStep})
	same(t, []any{n, e, w.Units()}, []any{api.TrapSvc, api.OK, 3})
	_, e = w.Slot(api.Ref{Node: 16, Index: 3})
	same(t, []any{e, w.slot(7, 0).Kind, len(w.forest.Descendants(api.Ref{Node: 2, Index: 1}))}, []any{api.ErrNode, 0, 0})
	w.sound()
	// Six units are enough for five and the node.
	w = holder(t)
	w.want(w.make(api.CNode, 1, 0, 1), api.OK)
	move(w, 7, 0, 2, 8)
	w.want(w.ask(1, api.DoRetype, 1, 8, api.Endpoint, 1, 3, 5), api.OK)
	move(w, 2, 8, 7, 0)
	w.want(w.ask(1, api.DoDelete, 2, 0, 0), api.OK)
	same(t, w.Units(), 6)
}

// TestGoesFirst: nodes in nodes are emptied from within, but not those that have another cap.
func TestGoesFirst(t *testing.T) {
	w := holder(t)
	w.want(w.make(api.CNode, 1, 0, 3), api.OK)
	w.want(w.make(api.Note, 1, 3, 3), api.OK)
	// The node 16 has 17 in its slot 2, and a note in 9 and 1; 17 has a note in 15, and 18's cap in 0 and 7.
	move(w, 7, 1, 16, 2)
	move(w, 7, 3, 16, 9)
	move(w, 7, 4, 16, 1)
	move(w, 7, 5, 17, 15)
	move(w, 7, 2, 17, 0)
	w.lay(api.Ref{Node: 17, Index: 7}, nodeCap(18), api.Ref{Node: 17, Index: 0})
	r := func(node, index int) api.Ref { return api.Ref{Node: node, Index: index} }
	for _, wanted := range []api.Ref{r(16, 9), r(17, 15), r(17, 7), r(17, 0), r(16, 2), r(16, 1), r(7, 0)} {
		same(t, w.goesFirst(r(7, 0)), wanted)
		w.units = 5
		e := w.empty(r(7, 0))
		same(t, []any{e == api.ErrAgain, w.isEmpty(wanted)}, []any{wanted != r(7, 0), true})
	}
	for _, n := range []int{16, 17, 18} {
		_, e := w.Slot(r(n, 0))
		same(t, e, api.ErrNode)
	}
	// A node with another cap stays as it is.
	w = holder(t)
	w.want(w.make(api.CNode, 1, 0, 1), api.OK)
	w.want(w.make(api.Note, 1, 3, 1), api.OK)
	move(w, 7, 3, 16, 0)
	w.lay(r(2, 9), nodeCap(16), r(7, 0))
	w.want(w.ask(1, api.DoDelete, 2, 0, 0), api.OK)
	same(t, []any{w.Units(), w.slot(16, 0).Kind}, []any{1, api.Note})
	w.sound()
}

func TestDeleteAndRevoke(t *testing.T) {
	w := holder(t, endpoint(all, 0))
	w.want(w.ask(1, api.DoDelete, 2, 0, 16), api.ErrArg)
	w.want(w.ask(1, api.DoRevoke, 2, 0, 1<<32-1), api.ErrArg)
	w.want(w.ask(1, api.DoDelete, 2, 0, 15), api.OK)
	same(t, w.Units(), 0)
	w.want(w.ask(1, api.DoRevoke, 2, 0, 15), api.OK)
	// A chain: the endpoint's cap in 0, a copy of it in 1, and so on; and two further copies of the first one.
	move(w, 2, 4, 7, 0)
	r := func(index int) api.Ref { return api.Ref{Node: 7, Index: index} }
	for i := range 4 {
		w.lay(r(i+1), w.held(r(i)), r(i))
	}
	w.lay(r(8), w.held(r(0)), r(0))
	w.lay(r(9), w.held(r(0)), r(0))
	w.want(w.ask(1, api.DoRevoke, 2, 0, 4), api.OK)
	same(t, w.Units(), 0)
	// What was derived of a deleted cap is the child of what that was derived of.
	w.want(w.ask(1, api.DoDelete, 2, 0, 2), api.OK)
	up, _ := w.forest.Parent(r(3))
	same(t, []any{up, w.Units()}, []any{r(1), 1})
	w.want(w.ask(1, api.DoRevoke, 2, 0, 1), api.OK)
	same(t, []any{w.Units(), w.isEmpty(r(3)), w.isEmpty(r(4)), w.isEmpty(r(1)), w.isEmpty(r(8))}, []any{2, true, true, false, false})
	w.want(w.ask(1, api.DoRevoke, 2, 0, 0), api.OK)
	same(t, w.forest.Descendants(r(0)), []api.Ref(nil))
	same(t, []any{w.Units(), w.isEmpty(r(0))}, []any{3, false})
	w.sound()
	// Seven children take two events.
	for i := range 7 {
		w.lay(r(1+i), w.held(r(0)), r(0))
	}
	w.want(w.ask(1, api.DoRevoke, 2, 0, 0), api.ErrAgain)
	same(t, []any{w.Units(), len(w.forest.Descendants(r(0)))}, []any{6, 1})
	n, e := w.Event(api.Event{Kind: api.EvStep})
	same(t, []any{n, e, w.Units()}, []any{api.TrapSvc, api.OK, 1})
}

// TestRevokeOfItself: memory that lies in a node that was made of it goes with that node.
func TestRevokeOfItself(t *testing.T) {
	w := holder(t)
	w.want(w.make(api.CNode, 1, 0, 1), api.OK)
	move(w, 7, 0, 2, 8)
	move(w, 2, 1, 16, 4)
	w.want(w.ask(1, api.DoRevoke, 8, 0, 4), api.OK)
	same(t, []any{w.Units(), w.slot(2, 8).Kind, len(w.Regions())}, []any{2, 0, 0})
	_, e := w.Slot(api.Ref{Node: 16, Index: 4})
	same(t, e, api.ErrNode)
	w.sound()
}

// TestFrameComesBack is the document's example 7.
func TestFrameComesBack(t *testing.T) {
	w := holder(t)
	w.want(w.make(api.Frame, 1, 0, 1), api.OK)
	move(w, 7, 0, 2, 8)
	w.want(w.ask(1, api.DoMap, 8, 3, 9, 3), api.OK)
	w.memory.Store(5*64, 4, 0x08340000)
	w.thread(1).regs[3], w.thread(1).regs[4] = 77, 9*64
	w.at(1, 0)
	x, _ := w.Load(16*64, 4)
	same(t, x, uint32(77))
	move(w, 2, 8, 7, 0)
	w.want(w.ask(1, api.DoDelete, 2, 0, 0), api.OK)
	same(t, len(w.Mappings(1)), 1)
	_, ok := w.Mapped(api.Ref{Node: 7, Index: 0})
	same(t, ok, false)
	w.want(w.make(api.Frame, 1, 0, 1), api.OK)
	same(t, w.slot(7, 0), api.Cap{Kind: api.Frame, Obj: 16, Rights: 7})
	x, _ = w.Load(16*64, 4)
	same(t, []any{x, w.Units()}, []any{uint32(0), 1})
	w.sound()
}

// TestLastEndpoint: who waits at an endpoint goes on with an error; who has faulted does its instruction again.
func TestLastEndpoint(t *testing.T) {
	p := api.Prog{Priority: 5, Code: code(svcs), Handler: 1, Shares: []api.Share{endpoint(all, 1)}}
	b := api.Boot{Frames: 64, Lrs: 1, Endpoints: 1, Progs: []api.Prog{p, p, p, p, p}}
	b.Progs[4].Shares = nil
	b.Progs[0].Shares = append(slices.Clone(p.Shares), api.Share{Kind: api.CNode, N: 4})
	for _, sends := range []bool{true, false} {
		// The threads 1, 6, 11, 16, 21; the endpoint 26.
		w := start(t, b)
		if sends {
			w.want(w.sys(11, api.SysSend, 1, 0), api.OK)
			w.at(6, 0)
			w.want(w.sys(16, api.SysCall, 1, 0), api.OK)
		} else {
			w.want(w.sys(16, api.SysRecv, 1), api.OK)
			w.want(w.sys(6, api.SysRecv, 1), api.OK)
			w.want(w.sys(11, api.SysReplyRecv, 1), api.OK)
		}
		for _, n := range []int{6, 11, 16} {
			at := api.Ref{Node: w.Node(n), Index: 1}
			w.empty(at)
			same(t, w.thread(n).off, false)
		}
		w.is(6, map[bool]int{true: api.BlockedSend, false: api.BlockedRecv}[sends], 26, false)
		move(w, 2, 1, 22, 0)
		pcs := map[int]int{}
		for _, n := range []int{6, 11, 16} {
			pcs[n] = w.thread(n).pc
		}
		w.want(w.ask(1, api.DoDelete, 2, 0, 0), api.OK)
		same(t, w.Units(), 1)
		for _, n := range []int{6, 11, 16} {
			w.is(n, api.Inactive, -1, false)
			wanted := uint32(api.ErrEndpoint)
			if n == 6 && sends {
				wanted = 0
			}
			c, _ := w.Cpu(n)
			same(t, []any{c.Regs[15], c.Pc, w.thread(n).faulted}, []any{wanted, pcs[n], false})
		}
		// They are woken in the order in which they came.
		queue := w.queue.Ready(0, 5)
		same(t, queue, map[bool][]int{true: {21, 11, 6, 16}, false: {21, 16, 6, 11}}[sends])
		w.sound()
	}
}

// TestLastNote: who waits at a notification goes on, in the order of the programs.
func TestLastNote(t *testing.T) {
	p := api.Prog{Priority: 5, Code: code(svcs), Shares: []api.Share{note(3, 1), {Kind: api.Note, N: 1, Rights: 3}}}
	b := api.Boot{Frames: 64, Lrs: 1, Notes: 2, Progs: []api.Prog{p, p, p, p}}
	b.Progs[0].Shares = append(slices.Clone(p.Shares), api.Share{Kind: api.CNode, N: 3})
	w := start(t, b)
	// The threads 1, 6, 11, 16; the notifications 21, 22.
	w.want(w.sys(11, api.SysRecv, 1), api.OK)
	w.want(w.sys(6, api.SysRecv, 1), api.OK)
	w.want(w.sys(16, api.SysRecv, 2), api.OK)
	for _, n := range []int{6, 11, 16} {
		w.empty(api.Ref{Node: w.Node(n), Index: 1})
	}
	w.is(6, api.BlockedNote, 21, false)
	move(w, 2, 1, 17, 5)
	w.want(w.ask(1, api.DoDelete, 3, 0, 5), api.OK)
	for _, n := range []int{6, 11} {
		w.is(n, api.Inactive, -1, false)
		same(t, w.regs(n)[15], uint32(api.ErrEndpoint))
	}
	w.is(16, api.BlockedNote, 22, false)
	same(t, w.queue.Ready(0, 5), []int{6, 11})
	w.sound()
}

// TestLastLine: with a line's last cap its notification goes, and who waits there, if that was the last one too.
func TestLastLine(t *testing.T) {
	w := start(t, pair([]api.Share{note(3, 1), {Kind: api.Irq, N: 7}, {Kind: api.CNode, N: 1}}, []api.Share{note(3, 1)}))
	w.want(w.ask(1, api.DoSetNote, 2, 1), api.OK)
	w.want(w.ask(1, api.DoCopy, 3, 2, 8, 0), api.OK)
	w.want(w.ask(1, api.DoDelete, 3, 0, 8), api.OK)
	same(t, w.slot(0, 7).Kind, api.Note)
	w.want(w.sys(6, api.SysRecv, 1), api.OK)
	w.empty(api.Ref{Node: 2, Index: 1})
	w.empty(api.Ref{Node: 7, Index: 1})
	w.is(6, api.BlockedNote, 13, false)
	move(w, 2, 2, 7, 8)
	w.want(w.ask(1, api.DoDelete, 3, 0, 8), api.OK)
	same(t, w.Units(), 1)
	same(t, []int{w.slot(0, 7).Kind, w.slot(7, 8).Kind, len(w.List())}, []int{0, 0, 1})
	w.is(6, api.Inactive, -1, false)
	same(t, w.regs(6)[15], uint32(api.ErrEndpoint))
	s, _ := w.lines.State(7)
	same(t, s.Level, false)
	w.sound()
}

// TestReplacedNote: a line's notification that is replaced goes as any other cap: who waits there is let go, if it was the last one.
func TestReplacedNote(t *testing.T) {
	w := start(t, pair([]api.Share{note(3, 1), {Kind: api.Irq, N: 7}, {Kind: api.Note, N: 1, Rights: 3, Badge: 2}}, []api.Share{note(3, 1)}))
	w.want(w.ask(1, api.DoSetNote, 2, 1), api.OK)
	w.want(w.sys(6, api.SysRecv, 1), api.OK)
	w.empty(api.Ref{Node: 2, Index: 1})
	w.empty(api.Ref{Node: 7, Index: 1})
	w.want(w.ask(1, api.DoSetNote, 2, 3), api.OK)
	w.is(6, api.Inactive, -1, false)
	same(t, w.regs(6)[15], uint32(api.ErrEndpoint))
	same(t, w.slot(0, 7), api.Cap{Kind: api.Note, Obj: 14, Rights: 3, Badge: 2})
	same(t, w.Units(), 0)
	w.sound()
}

func TestLastMemoryAndStream(t *testing.T) {
	w := start(t, pair([]api.Share{{Kind: api.Untyped}, {Kind: api.CNode, N: 1}, {Kind: api.Table}, {Kind: api.Stream, N: 2}}, nil))
	w.want(w.ask(1, api.DoAttach, 4, 3), api.OK)
	w.want(w.make(api.Frame, 1, 0, 2), api.OK)
	move(w, 2, 4, 7, 8)
	w.want(w.ask(1, api.DoDelete, 2, 0, 8), api.OK)
	same(t, w.Stream(2), 0)
	move(w, 2, 1, 7, 8)
	w.want(w.ask(1, api.DoDelete, 2, 0, 8), api.OK)
	same(t, len(w.Regions()), 0)
	// What was made of it stays, with nothing above it.
	same(t, w.slot(7, 1), api.Cap{Kind: api.Frame, Obj: 17, Rights: 7})
	same(t, w.Depth(api.Ref{Node: 7, Index: 1}), 0)
	w.sound()
}

// TestNestedMemory: what was made of a piece keeps the region above it from being reset.
func TestNestedMemory(t *testing.T) {
	w := holder(t)
	w.want(w.make(api.Note, 1, 9, 1), api.OK)
	w.want(w.make(api.Untyped, 4, 0, 1), api.OK)
	move(w, 7, 0, 2, 8)
	w.want(w.ask(1, api.DoRetype, 8, 2, api.Frame, 1, 1, 2), api.OK)
	w.want(w.ask(1, api.DoDelete, 2, 0, 9), api.OK)
	move(w, 2, 8, 7, 0)
	w.want(w.ask(1, api.DoDelete, 2, 0, 0), api.OK)
	same(t, w.Regions(), []api.Region{{First: 16, Frames: 16, Mark: 8}})
	up, _ := w.forest.Parent(api.Ref{Node: 7, Index: 1})
	same(t, up, api.Ref{Node: 2, Index: 1})
	w.want(w.make(api.Frame, 1, 3, 1), api.OK)
	same(t, w.slot(7, 3).Obj, 24)
	w.want(w.ask(1, api.DoRevoke, 2, 0, 1), api.OK)
	for i := range 4 {
		w.want(w.ask(1, api.DoDelete, 2, 0, uint32(i)), api.OK)
	}
	w.want(w.make(api.Frame, 1, 3, 1), api.ErrAgain)
	n, e := w.Event(api.Event{Kind: api.EvStep})
	same(t, []any{n, e, w.slot(7, 3).Obj, w.Units()}, []any{api.TrapSvc, api.OK, 16, 3})
}

// TestEndOfSpace: with a root its space is gone: slots have mapped nothing there, streams and threads have none.
func TestEndOfSpace(t *testing.T) {
	w := mapper(t)
	w.want(w.ask(1, api.DoMap, frameA, rootB, 9, 3), api.OK)
	w.want(w.ask(1, api.DoMap, frameB, rootA, 9, 3), api.OK)
	w.want(w.ask(1, api.DoMapTable, tabA, rootB, 64), api.OK)
	w.want(w.ask(1, api.DoMapTable, tabB, rootA, 64), api.OK)
	w.want(w.ask(1, api.DoMap, frameC, rootB, 70, 3), api.OK)
	w.want(w.ask(1, api.DoAttach, stream5, rootB), api.OK)
	w.at(7, atNop)
	move(w, 2, rootB, 8, 0)
	w.want(w.ask(1, api.DoDelete, 2, 0, 0), api.OK)
	same(t, w.Units(), 1)
	same(t, []int{w.Vmid(7), w.Vmid(1), w.Stream(5), len(w.Mappings(2)), len(w.Mappings(1))}, []int{0, 1, 0, 0, 3})
	same(t, w.Tables(), []int{3, 4, 20})
	same(t, []api.Mapping{w.mapped(frameA), w.mapped(frameC), w.mapped(tabA)}, make([]api.Mapping, 3))
	same(t, []int{w.mapped(frameB).Page, w.mapped(tabB).Page}, []int{9, 64})
	w.sound()
	// Its thread finds nothing any more.
	w.thread(7).pc = atNop
	w.as(7)
	n, e := w.Event(api.Event{Kind: api.EvStep})
	same(t, []any{n, e}, []any{api.TrapFetch, api.ErrFault})
	w.is(7, api.Inactive, -1, true)
	// A new space may have the number: the thread has it not.
	w.want(w.ask(1, api.DoAssign, tabA, 0), api.OK)
	same(t, []any{w.regs(1)[2], w.Vmid(7)}, []any{uint32(2), 0})
	w.sound()
}

// TestFaultWithoutSpace tells the handler what a thread without a space is told.
func TestFaultWithoutSpace(t *testing.T) {
	w := handled(t, false, "")
	w.endSpace(2)
	same(t, w.Vmid(6), 0)
	w.at(6, 68)
	w.want(w.sys(1, api.SysRecv, 1), api.OK)
	same(t, w.regs(1)[:6], []uint32{5, 16*1 + 4, 0, 68, 3 + 4*2, 1})
}

// TestDeletedTable: a mapped table's cap that is deleted ends as UnTable does.
func TestDeletedTable(t *testing.T) {
	w := mapper(t)
	w.want(w.ask(1, api.DoMapTable, tabA, rootA, 64), api.OK)
	w.want(w.ask(1, api.DoMap, frameA, rootA, 70, 3), api.OK)
	w.want(w.ask(1, api.DoMap, frameB, rootA, 20, 3), api.OK)
	move(w, 2, tabA, 8, 0)
	w.want(w.ask(1, api.DoDelete, 2, 0, 0), api.OK)
	same(t, []any{w.mapped(frameA), w.mapped(frameB).Page, w.Tables(), len(w.Mappings(1))}, []any{api.Mapping{}, 20, []int{3, 4, 9, 10}, 3})
	x, _ := w.Load(3*64+4, 2)
	same(t, x, uint32(0))
	w.sound()
}

// TestOwnNode: a thread whose node is gone finds nothing, and what is sent to it is brought nowhere.
func TestOwnNode(t *testing.T) {
	p := api.Prog{Priority: 5, Code: code(svcs), Shares: []api.Share{endpoint(all, 1)}}
	b := api.Boot{Frames: 64, Lrs: 1, Endpoints: 1, Progs: []api.Prog{p, p, p}}
	b.Progs[0].Shares = append(slices.Clone(p.Shares), api.Share{Kind: api.CNode, N: 1}, api.Share{Kind: api.CNode, N: 2})
	w := start(t, b)
	w.want(w.sys(11, api.SysRecv, 1, 0, 0, 0, 0, 0, 7, 3), api.OK)
	move(w, 2, 3, 7, 8)
	w.want(w.ask(1, api.DoDelete, 2, 0, 8), api.OK)
	same(t, w.Units(), 2)
	same(t, []int{w.Node(11), w.Vmid(11)}, []int{12, 3})
	w.is(11, api.BlockedRecv, 16, false)
	w.want(w.sys(1, api.SysSend, 1, 1, 42, 0, 0, 0, 1), api.OK)
	same(t, []uint32{w.regs(11)[2], w.regs(11)[6]}, []uint32{42, 0})
	w.want(w.sys(11, api.SysRecv, 1), api.ErrNode)
	w.want(w.sys(11, api.SysSend, 99), api.ErrGuard)
	w.at(11, 0)
	w.is(11, api.Inactive, -1, true)
	w.sound()
}
