package kernel

import (
	"fmt"
	"math"
	"reflect"
	"slices"
	"testing"

	"viceroy/api"
	"viceroy/asm"
)

// The words of a program that a test drives: the n-th one is `svc n`, from 1 on, but for 0, which is none.
const svcs = "word 0\nsvc 1\nsvc 2\nsvc 3\nsvc 4\nsvc 5\nsvc 6\nsvc 7\nsvc 8\nsvc 9\nwfi\nnop\nhvc 1"

const (
	atWfi = 40
	atNop = 44
	atHvc = 48
)

func code(src string) []uint32 {
	w, line, e := asm.Assemble(0, src)
	if e != api.OK {
		panic(fmt.Sprint("line ", line, e))
	}
	return w
}

// world is a machine whose threads do what a test says.
type world struct {
	*Kernel
	t *testing.T
	b api.Boot
}

func start(t *testing.T, b api.Boot) *world {
	t.Helper()
	k, e := New(b)
	if e != api.OK || k == nil || Check(b) != api.OK {
		t.Fatal("no machine: ", e)
	}
	return &world{k, t, b}
}

// pair is a descriptor of two threads, in the frames 1 and 6, whose nodes are 2 and 7, with the endpoints 11 and 12, the notifications 13 and 14, and a piece of 16 frames at 16. Both have their Tcb's, root's, and the second one's node's caps by what is shared.
func pair(first, second []api.Share) api.Boot {
	p := api.Prog{Priority: 5, Code: code(svcs)}
	q := p
	p.Shares, q.Shares = first, second
	return api.Boot{Frames: 64, Lrs: 1, Endpoints: 2, Notes: 2, Pieces: []int{16}, Progs: []api.Prog{p, q}}
}

// single is one of a thread with the frames 1 to 5, the node 2 and the root 3; the endpoint 6, the notification 7, the piece of 8 frames at 8.
func single(shares ...api.Share) api.Boot {
	return api.Boot{Frames: 32, Lrs: 1, Endpoints: 1, Notes: 1, Pieces: []int{8}, Progs: []api.Prog{{Priority: 5, Code: code(svcs), Shares: shares}}}
}

// as lets others go behind their equals, until a thread is current.
func (w *world) as(n int) *thread {
	w.t.Helper()
	for i := 0; i < 20 && w.Current() != n; i++ {
		w.queue.Yield()
		w.queue.Settle()
	}
	if w.Current() != n {
		w.t.Fatalf("%d does not become current", n)
	}
	return w.thread(n)
}

// at lets a thread do the instruction at an address, with the registers from 0 on that are given.
func (w *world) at(n, pc int, regs ...uint32) (int, api.Errno) {
	w.t.Helper()
	t := w.as(n)
	copy(t.regs[:], regs)
	t.pc = pc
	return w.Event(api.Event{Kind: api.EvStep})
}

// sys lets one do a syscall, whose error it tells; the error must be in the register 15, and Pc behind.
func (w *world) sys(n, call int, regs ...uint32) api.Errno {
	w.t.Helper()
	cause, e := w.at(n, 4*call, regs...)
	c, _ := w.Cpu(n)
	if cause != api.TrapSvc || e != api.ErrAgain && (c.Regs[15] != uint32(e) || c.Pc != 4*call+4) {
		w.t.Errorf("syscall %d: %d %v, %v", call, cause, e, c)
	}
	return e
}

// ask lets one ask a cap, with another one, by words.
func (w *world) ask(n, label int, c, other uint32, words ...uint32) api.Errno {
	w.t.Helper()
	t := w.as(n)
	regs := t.regs
	regs[0], regs[1], regs[6] = c, uint32(16*label+len(words)), other
	copy(regs[2:], words)
	return w.sys(n, api.SysSend, regs[:]...)
}

// want fails, if an error is another one.
func (w *world) want(e, wanted api.Errno) {
	w.t.Helper()
	if e != wanted {
		w.t.Errorf("%d, not %d", e, wanted)
	}
}

func (w *world) slot(node, index int) api.Cap {
	c, _ := w.Slot(api.Ref{Node: node, Index: index})
	return c
}

func (w *world) regs(n int) *[16]uint32 {
	c, _ := w.Cpu(n)
	return &c.Regs
}

// is fails, if a thread waits otherwise, or is not as off.
func (w *world) is(n, state, on int, off bool) {
	w.t.Helper()
	s, o, f := w.State(n)
	if s != state || o != on || f != off {
		w.t.Errorf("%d: %d %d %v, not %d %d %v", n, s, o, f, state, on, off)
	}
	task, _ := w.Task(n)
	if task.Awake != (state == api.Inactive && !off) {
		w.t.Errorf("%d is awake: %v", n, task.Awake)
	}
}

func (w *world) sound() {
	w.t.Helper()
	if s := sound(w.b, w.Kernel); s != "" {
		w.t.Error(s)
	}
}

// same fails, if two values are not.
func same(t *testing.T, got, wanted any) {
	t.Helper()
	if !reflect.DeepEqual(got, wanted) {
		t.Errorf("%v, not %v", got, wanted)
	}
}

// view is all that a kernel tells.
func view(k *Kernel) string {
	l := []any{k.Current(), k.Units(), k.Threads(), k.Full(), k.List(), k.Tables(), k.Regions()}
	for _, t := range k.Threads() {
		c, e := k.Cpu(t)
		task, f := k.Task(t)
		state, on, off := k.State(t)
		l = append(l, c, e, task, f, state, on, off, k.Vmid(t), k.Node(t), k.Virtual(t))
	}
	for _, at := range k.Full() {
		c, e := k.Slot(at)
		m, ok := k.Mapped(at)
		l = append(l, c, e, m, ok, k.Depth(at))
	}
	for n := range 16 {
		l = append(l, k.Mappings(n), k.Stream(n))
	}
	words := make([]uint32, 16*k.Frames())
	for i := range words {
		words[i], _ = k.Load(4*i, 4)
	}
	return fmt.Sprint(append(l, words)...)
}

func TestExamples(t *testing.T) {
	b := api.Boot{Frames: 64, Lrs: 1, Endpoints: 1, Progs: []api.Prog{{Priority: 5, Code: code("movi r0, 1\nsvc 4"), Shares: []api.Share{{Kind: api.Endpoint, Rights: 3}}}}}
	w := start(t, b)
	same(t, w.Threads(), []int{1})
	same(t, []int{w.Current(), w.Vmid(1), w.Node(1), w.Frames()}, []int{1, 1, 2, 64})
	same(t, w.slot(2, 1), api.Cap{Kind: api.Endpoint, Obj: 6, Rights: 3})
	same(t, w.Mappings(1), []api.Mapping{{Vmid: 1, Page: 0, Frame: 5, Rights: 5}})
	same(t, w.Tables(), []int{3, 4})
	n, e := w.Event(api.Event{Kind: api.EvStep})
	same(t, []any{n, e, w.regs(1)[0]}, []any{0, api.OK, uint32(1)})
	n, e = w.Event(api.Event{Kind: api.EvStep})
	same(t, []any{n, e, w.regs(1)[15], w.Current()}, []any{6, api.OK, uint32(0), -1})
	w.is(1, api.BlockedRecv, 6, false)
	n, e = w.Event(api.Event{Kind: api.EvStep})
	same(t, []any{n, e}, []any{0, api.ErrIdle})
	b.Progs[0].Code = code("svc 99")
	w = start(t, b)
	n, e = w.Event(api.Event{Kind: api.EvStep})
	c, _ := w.Cpu(1)
	same(t, []any{n, e, c.Regs[15], c.Pc}, []any{6, api.ErrCall, uint32(190), 4})
	b.Progs[0].Code = code("word 0")
	w = start(t, b)
	n, e = w.Event(api.Event{Kind: api.EvStep})
	same(t, []any{n, e}, []any{8, api.ErrFault})
	w.is(1, api.Inactive, -1, true)
	n, e = w.Event(api.Event{Kind: api.EvDma, N: 3})
	same(t, []any{n, e}, []any{0, api.ErrFault})
	n, e = w.Event(api.Event{Kind: api.EvIrq, N: 16})
	same(t, []any{n, e}, []any{0, api.ErrEvent})
}

// TestGuest is the document's examples 3 to 6, with programs that do it all themselves.
func TestGuest(t *testing.T) {
	handler := code("movi r0, 1\nsvc 4\nmovi r1, 1\nmovi r2, 4\nmovi r0, 1\nsvc 7\njmp 8")
	guest := code("hvc 9\niar r1\neoi r1\niar r2\neoi r2\niar r3\nmovi r7, 7\nnop\nnop\njmp 28")
	b := api.Boot{Frames: 32, Lrs: 1, Endpoints: 1, Progs: []api.Prog{
		{Priority: 5, Code: handler, Shares: []api.Share{{Kind: api.Endpoint, Rights: 11}, {Kind: api.Vcpu, N: 1}}},
		{Priority: 4, Handler: 1, Guest: true, Code: guest, Shares: []api.Share{{Kind: api.Endpoint, Rights: 11, Badge: 5}}},
	}}
	w := start(t, b)
	step := func() (int, api.Errno) { return w.Event(api.Event{Kind: api.EvStep}) }
	step()
	step()
	// The guest is 6, its virtual processor 11.
	n, e := step()
	same(t, []any{n, e}, []any{api.TrapHvc, api.ErrFault})
	same(t, *w.regs(1), [16]uint32{5, 16*5 + 4, 9})
	w.is(6, api.BlockedReply, 1, false)
	w.guests.Inject(11, 3, 20, true)
	w.guests.Inject(11, 4, 10, false)
	for range 4 {
		step()
	}
	w.is(1, api.BlockedRecv, 12, false)
	w.is(6, api.Inactive, -1, false)
	c, _ := w.Cpu(6)
	same(t, []any{c.Pc, c.Sys, w.Current()}, []any{4, [8]uint32{api.SysId: 11}, 6})
	same(t, len(w.Virtual(6)), 2)
	for range 3 {
		n, e = step()
		same(t, []any{n, e}, []any{0, api.OK})
	}
	same(t, *w.regs(6), [16]uint32{1: 4, 2: 3})
	n, e = step()
	same(t, []any{n, e}, []any{api.TrapMaint, api.ErrFault})
	same(t, *w.regs(1), [16]uint32{5, 16*10 + 4, 3, 16})
	// The answer says the address 4: the guest goes on there, with nothing pending.
	for range 6 {
		step()
	}
	same(t, []any{w.regs(6)[1], len(w.Virtual(6))}, []any{uint32(api.Spurious), 0})
}

func TestNobody(t *testing.T) {
	w := start(t, single())
	for _, n := range []int{math.MinInt, -1, 0, 2, 6, 1023, 1024, math.MaxInt} {
		c, e := w.Cpu(n)
		same(t, []any{c, e}, []any{api.Cpu{}, api.ErrThread})
		s, on, off := w.State(n)
		same(t, []any{s, on, off}, []any{api.Inactive, -1, false})
		task, e := w.Task(n)
		same(t, []any{task, e}, []any{api.Task{}, api.ErrThread})
		same(t, []int{w.Vmid(n), w.Node(n), len(w.Virtual(n))}, []int{0, 0, 0})
		if n != 0 {
			same(t, w.Stream(n), 0)
		}
		m, ok := w.Mapped(api.Ref{Node: n, Index: n})
		same(t, []any{m, ok, w.Depth(api.Ref{Node: n}), len(w.Mappings(n))}, []any{api.Mapping{}, false, -1, 0})
		_, e = w.Slot(api.Ref{Node: n, Index: 16})
		if e == api.OK {
			t.Error(n)
		}
		x, e := w.Load(n, n)
		if e == api.OK && n != 2 {
			t.Error(n, x)
		}
	}
	same(t, len(w.Virtual(1)), 0)
	x, e := w.Load(5*64+4, 4)
	same(t, []any{x, e}, []any{uint32(0x12000001), api.OK})
	_, e = w.Slot(api.Ref{Node: 99})
	same(t, e, api.ErrNode)
	_, e = w.Slot(api.Ref{Node: 2, Index: 16})
	same(t, e, api.ErrArg)
	c, e := w.Slot(api.Ref{Node: 0, Index: 15})
	same(t, []any{c, e}, []any{api.Cap{}, api.OK})
}

func TestEventsThatMayBe(t *testing.T) {
	w := start(t, pair([]api.Share{{Kind: api.Untyped}, {Kind: api.CNode, N: 1}}, nil))
	// An event that did units stands ahead: these are told still.
	w.want(w.ask(1, api.DoRetype, 1, 2, api.Endpoint, 1, 3, 2), api.OK)
	w.want(w.ask(1, api.DoRevoke, 2, 0, 3), api.OK)
	w.want(w.ask(1, api.DoDelete, 2, 0, 3), api.OK)
	same(t, w.Units(), 1)
	before := view(w.Kernel)
	for _, e := range []api.Event{
		{}, {Kind: -1}, {Kind: 6}, {Kind: math.MaxInt}, {Kind: math.MinInt},
		{Kind: api.EvStep, At: -1}, {Kind: api.EvStep, At: 8}, {Kind: api.EvStep, At: math.MaxInt},
		{Kind: api.EvIrq, N: -1}, {Kind: api.EvIrq, N: 16}, {Kind: api.EvIrq, N: 31},
		{Kind: api.EvDma, N: -1}, {Kind: api.EvDma, N: 16}, {Kind: api.EvDma, At: -1}, {Kind: api.EvDma, At: 65536},
		{Kind: api.EvDma, Value: 256, Write: true}, {Kind: api.EvDma, Value: 256}, {Kind: api.EvDma, Value: math.MaxUint32},
		{Kind: api.EvEvict, N: -1}, {Kind: api.EvEvict, N: 8},
	} {
		n, err := w.Event(e)
		if n != 0 || err != api.ErrEvent || view(w.Kernel) != before {
			t.Error(e, n, err)
		}
	}
	// What an event does not have does not matter.
	for _, e := range []api.Event{
		{Kind: api.EvTick, N: -1, At: -1, Write: true, Value: 999}, {Kind: api.EvIrq, N: 15, At: -1, Value: 999},
		{Kind: api.EvEvict, N: 7, At: -1, Value: 999}, {Kind: api.EvIrq}, {Kind: api.EvEvict},
		{Kind: api.EvStep, At: 7, N: -1, Value: 999, Write: true}, {Kind: api.EvStep},
	} {
		w.as(1).pc = atNop
		n, err := w.Event(e)
		if n != 0 || err != api.OK || w.Units() != 0 {
			t.Error(e, n, err)
		}
	}
	for _, e := range []api.Event{{Kind: api.EvDma, N: 15, At: 65535, Value: 255, Write: true}, {Kind: api.EvDma}} {
		n, err := w.Event(e)
		same(t, []any{n, err}, []any{0, api.ErrFault})
	}
}

// TestEvict: an entry of each buffer is forgotten.
func TestEvict(t *testing.T) {
	b := single(api.Share{Kind: api.Stream, N: 4}, api.Share{Kind: api.Table})
	b.Progs[0].Data = 1
	w := start(t, b)
	w.want(w.ask(1, api.DoAttach, 1, 2), api.OK)
	for at := range 8 {
		w.buffer.FlushAll()
		w.thread(1).pc = atNop
		w.Event(api.Event{Kind: api.EvStep, At: at})
		w.Event(api.Event{Kind: api.EvDma, N: 4, At: 64})
		same(t, w.buffer.Lines()[at], api.Line{Vmid: 1, Page: 0, Frame: 5, Rights: 5})
		w.Event(api.Event{Kind: api.EvEvict, N: (at + 1) % 8})
		same(t, w.buffer.Lines()[at].Vmid, 1)
		w.Event(api.Event{Kind: api.EvEvict, N: at})
		same(t, w.buffer.Lines()[at].Vmid, 0)
		forgotten := 1
		if at == 0 || at == 1 {
			// The page 1 was in the entry 1, which was forgotten.
			forgotten = 0
		}
		same(t, w.devices.Flush(4), forgotten)
	}
}

func TestTicks(t *testing.T) {
	b := pair(nil, nil)
	b.Progs[1].Guest = true
	b.Progs[1].Code = code("nop\njmp 0")
	w := start(t, b)
	tick := func() {
		n, e := w.Event(api.Event{Kind: api.EvTick})
		same(t, []any{n, e}, []any{0, api.OK})
	}
	for range 3 {
		tick()
	}
	same(t, w.Current(), 1)
	task, _ := w.Task(1)
	same(t, task, api.Task{Id: 1, Priority: 5, Slice: 1, Awake: true})
	tick()
	same(t, w.Current(), 6)
	// Only now is a virtual processor's time counted: the guest is current.
	w.guests.Write(11, api.SysTimer, 2)
	c, _ := w.Cpu(6)
	same(t, c.Sys[api.SysCount], uint32(0))
	tick()
	same(t, len(w.Virtual(6)), 0)
	tick()
	c, _ = w.Cpu(6)
	same(t, c.Sys, [8]uint32{api.SysTimer: 2, api.SysCount: 2, api.SysId: 11})
	same(t, w.Virtual(6), []api.Lr{{Id: 27, Priority: 10, Pending: true}})
	tick()
	tick()
	same(t, w.Current(), 1)
	tick()
	c, _ = w.Cpu(6)
	same(t, c.Sys[api.SysCount], uint32(4))
}

func TestDomains(t *testing.T) {
	b := pair(nil, nil)
	b.Table = []api.Turn{{Domain: 0, Ticks: 2}, {Domain: 1, Ticks: 1}, {Domain: 2, Ticks: 1}}
	b.Progs[1].Domain, b.Progs[1].Priority = 1, 9
	w := start(t, b)
	var who []int
	for range 8 {
		who = append(who, w.Current())
		w.Event(api.Event{Kind: api.EvTick})
	}
	same(t, who, []int{1, 1, 6, -1, 1, 1, 6, -1})
}

func TestIdle(t *testing.T) {
	w := start(t, single(api.Share{Kind: api.Note, Rights: 3}, api.Share{Kind: api.Irq, N: 4}))
	w.want(w.ask(1, api.DoSetNote, 2, 1), api.OK)
	w.want(w.sys(1, api.SysRecv, 1), api.OK)
	w.is(1, api.BlockedNote, 7, false)
	n, e := w.Event(api.Event{Kind: api.EvStep, At: 3})
	same(t, []any{n, e, w.Current()}, []any{0, api.ErrIdle, -1})
	// An interrupt wakes it.
	n, e = w.Event(api.Event{Kind: api.EvIrq, N: 4})
	same(t, []any{n, e, w.Current()}, []any{0, api.OK, 1})
}

func TestYieldAndWait(t *testing.T) {
	w := start(t, pair(nil, nil))
	w.want(w.sys(1, api.SysYield), api.OK)
	same(t, w.Current(), 6)
	// A thread's wfi gives way as well.
	n, e := w.at(6, atWfi)
	same(t, []any{n, e, w.Current()}, []any{api.TrapWfi, api.OK, 1})
	c, _ := w.Cpu(6)
	same(t, []any{c.Pc, c.Regs[15]}, []any{atWfi + 4, uint32(0)})
	w.is(6, api.Inactive, -1, false)
	w.want(w.sys(1, 9, 1), api.ErrCall)
}

// TestLastPage lets a thread do a syscall at the last address: the next one is 0.
func TestLastPage(t *testing.T) {
	w := start(t, pair([]api.Share{{Kind: api.Table}, {Kind: api.Untyped}, {Kind: api.CNode, N: 1}}, nil))
	// A table for the pages 992 to 1023, and a frame at the last one.
	w.want(w.ask(1, api.DoRetype, 2, 3, api.Table, 1, 0, 1), api.OK)
	w.want(w.ask(1, api.DoRetype, 2, 3, api.Frame, 1, 1, 1), api.OK)
	move(w, 7, 0, 2, 8)
	move(w, 7, 1, 2, 9)
	w.want(w.ask(1, api.DoMapTable, 8, 1, 1023), api.OK)
	w.want(w.ask(1, api.DoMap, 9, 1, 1023, 7), api.OK)
	w.memory.Store(17*64+60, 4, 0x12000008)
	cause, e := w.at(1, 65532)
	c, _ := w.Cpu(1)
	same(t, []any{cause, e, c.Pc}, []any{api.TrapSvc, api.OK, 0})
	w.memory.Store(17*64+60, 4, 0x15000000)
	cause, e = w.at(1, 65532)
	c, _ = w.Cpu(1)
	same(t, []any{cause, e, c.Pc}, []any{api.TrapWfi, api.OK, 0})
	w.sound()
}

// move moves a cap from slot to slot, as a holder of both nodes would.
func move(w *world, node, index, toNode, to int) {
	w.t.Helper()
	from := api.Ref{Node: node, Index: index}
	r := &request{Kernel: w.Kernel, c: nodeCap(toNode), other: w.held(from), otherAt: from}
	r.words[0] = uint32(to)
	if e := r.move(); e != api.OK || r.other.Kind == api.Null {
		w.t.Fatal("not moved: ", e, r.other)
	}
}

func TestListsAreNew(t *testing.T) {
	b := pair([]api.Share{{Kind: api.Untyped}, {Kind: api.Endpoint, Rights: 3}}, nil)
	words := slices.Clone(b.Progs[0].Code)
	w := start(t, b)
	before := view(w.Kernel)
	b.Progs[0].Code[1], b.Progs[0].Shares[0].Kind, b.Pieces[0] = 7, 5, 1
	w.Threads()[0], w.Full()[0], w.List()[0], w.Tables()[0] = 99, api.Ref{}, api.Ref{}, 99
	w.Regions()[0].Mark, w.Mappings(1)[0].Frame = 3, 99
	same(t, view(w.Kernel), before)
	same(t, words[1], uint32(0x12000001))
}
