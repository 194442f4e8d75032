package kernel

import (
	"fmt"
	"reflect"
	"testing"

	"viceroy/api"
)

// dice throws the same numbers in each run.
type dice struct{ x uint64 }

func (d *dice) throw(n int) int {
	d.x = d.x*6364136223846793005 + 1442695040888963407
	return int(d.x >> 33 % uint64(n))
}

func (d *dice) pick(l ...int) int { return l[d.throw(len(l))] }

// The words of all programs: a guest's first ones are a table of its own, in its page 0, that says the pages 5 to 7.
var threadCode = []uint32{
	0x12000001, 0x12000002, 0x12000003, 0x12000004, 0x12000005, 0x12000006, 0x12000007, 0x12000008, // svc 1 to 8
	0x12000063, 0x15000000, 0x07230000, 0x08230000, 0x0a230000, 0x11000003, 0x00000000, 0x0e000000, // svc 99, wfi, ldr, str, strb, hvc 3, none, jmp 0
}

var guestCode = []uint32{
	0x00000001, 0x00000000, 0x001f0000, 0x0047004f, // 0: the table in the page 0; 5: the page 0, all rights; 6: the page 1, Read and Write; 7: the page 1, Read
	0x11000009, 0x12000004, 0x15000000, 0x16900000, 0x17090000, 0x13800005, 0x14080003, 0x14080004, // hvc 9, svc 4, wfi, iar r9, eoi r9, mrs r8 5, msr r8 3, msr r8 4
	0x07230000, 0x08230000, 0x18000000, 0x0a230040, // ldr, str, tlbi, strb
}

// descriptor throws one that may be.
func (d *dice) descriptor() api.Boot {
	for {
		b := d.anyDescriptor()
		if Check(b) == api.OK {
			return b
		}
	}
}

func (d *dice) anyDescriptor() api.Boot {
	b := api.Boot{Frames: 64 + d.throw(64), Lrs: 1 + d.throw(4), Endpoints: 1 + d.throw(3), Notes: 1 + d.throw(2)}
	for range d.throw(3) {
		b.Table = append(b.Table, api.Turn{Domain: d.throw(2), Ticks: 1 + d.throw(6)})
	}
	for range 1 + d.throw(4) {
		b.Pieces = append(b.Pieces, d.pick(4, 8, 8, 16, 16, 32))
	}
	for range d.pick(1, 2, 2, 3, 3, 4) {
		p := api.Prog{Priority: 4 + d.throw(2), Domain: d.throw(6) / 5, Handler: d.pick(1, 1, 1, 2, 3, 77), Guest: d.throw(3) == 0, Data: d.throw(4), Code: threadCode}
		if p.Guest {
			p.Code = guestCode
		}
		p.Shares = append(p.Shares, api.Share{Kind: api.Endpoint, N: d.throw(2), Rights: 11, Badge: d.throw(3)})
		for n := range 3 {
			p.Shares = append(p.Shares, api.Share{Kind: api.CNode, N: len(b.Progs) + 1 + n})
		}
		for range d.throw(15) {
			p.Shares = append(p.Shares, d.share())
		}
		b.Progs = append(b.Progs, p)
	}
	// Most thrown shares may not be: only those stay that may.
	for i := range b.Progs {
		all := b.Progs[i].Shares
		b.Progs[i].Shares = nil
		for _, s := range all {
			b.Progs[i].Shares = append(b.Progs[i].Shares, s)
			if l := layOut(b); !l.mayShare(b.Progs[:i+1]) || len(b.Progs[i].Shares) > 12 {
				b.Progs[i].Shares = b.Progs[i].Shares[:len(b.Progs[i].Shares)-1]
			}
		}
	}
	return b
}

func (d *dice) share() api.Share {
	s := api.Share{Kind: d.pick(1, 1, 2, 2, 2, 3, 4, 5, 6, 7, 8, 9, 10), N: d.throw(4)}
	switch s.Kind {
	case api.Endpoint:
		s.Rights, s.Badge = d.pick(11, 11, 11, 3, 2, 1, 10), d.throw(3)
	case api.Note:
		s.Rights, s.Badge = d.pick(3, 3, 2, 1), d.throw(5)
	case api.Frame:
		s.Rights = d.pick(7, 3, 1, 5)
	}
	return s
}

// poke sets what a thread does next: what a program would take many instructions for.
func (d *dice) poke(k *Kernel, m *model) {
	t, x := k.thread(k.Current()), m.of(m.current)
	if t == nil || d.throw(12) == 0 {
		return
	}
	regs := t.regs
	for i := range 8 {
		regs[i] = uint32(d.number())
	}
	regs[0] = d.slot(k, t)
	if d.throw(3) == 0 {
		regs[0] = d.slotOf(k, m, t, d.pick(api.Untyped, api.Untyped, api.CNode, api.CNode, api.Table, api.Frame, api.Endpoint, api.Note, api.Note, api.Irq))
	}
	if at, ok := d.anyTable(k, t); ok {
		regs[0] = at
	}
	c, _, _ := k.find(t, regs[0])
	d.words(k, m, t, c, &regs)
	regs[8] = uint32(d.throw(300))
	if d.throw(4) == 0 {
		regs[9] = uint32(d.throw(66))
	}
	pc := 4 * d.throw(16)
	switch {
	case x.vcpu < 0 && x.caller >= 0 && d.throw(3) > 0:
		pc = 4 * d.pick(5, 6)
		regs[1] = uint32(d.pick(0, 0, 16) + d.throw(6))
	case x.vcpu < 0 && d.throw(3) > 0:
		pc = 4 * d.pick(0, 1, 1, 1, 1, 1, 1, 2, 3, 4)
	}
	if x.vcpu >= 0 {
		pc = 16 + 4*d.throw(12)
		if x.sys[0] != 0 && d.throw(4) > 0 {
			pc += 320
		}
	}
	if d.throw(40) == 0 {
		pc = d.throw(65536)
	}
	t.regs, t.pc, x.regs, x.pc = regs, pc, regs, pc
}

func (d *dice) number() int {
	return d.pick(0, 0, 1, 1, 2, 3, 4, 5, 7, 8, 15, 16, 17, 31, 32, 64, 65, 100, 255, 1000, 1024, 70000)
}

// slot is mostly one that is not empty.
func (d *dice) slot(k *Kernel, t *thread) uint32 {
	for range 4 {
		n := d.throw(16)
		if !k.isEmpty(api.Ref{Node: t.node, Index: n}) {
			return uint32(n)
		}
	}
	return uint32(d.number())
}

// anyTable is sometimes a table's slot that is no root.
func (d *dice) anyTable(k *Kernel, t *thread) (uint32, bool) {
	n := d.throw(16)
	c := k.held(api.Ref{Node: t.node, Index: n})
	return uint32(n), c.Kind == api.Table && k.spaceOf(c.Obj) == noSpace
}

// slotOf is mostly one of a kind.
func (d *dice) slotOf(k *Kernel, m *model, t *thread, kind int) uint32 {
	for i := range 30 {
		n := d.throw(16)
		c := k.held(api.Ref{Node: t.node, Index: n})
		up, _ := k.forest.Parent(api.Ref{Node: t.node, Index: n})
		// Of tables it is to be a root most often, of nodes one that was made.
		good := kind != api.Table && kind != api.CNode || kind == api.Table && k.spaceOf(c.Obj) != noSpace || kind == api.CNode && k.held(up).Kind == api.Untyped
		if c.Kind == kind && (good || i > 20) {
			return uint32(n)
		}
	}
	full := k.Full()
	for i := 0; i < 60 && len(full) > 0; i++ {
		from := full[d.throw(len(full))]
		to := api.Ref{Node: t.node, Index: d.throw(16)}
		if k.held(from).Kind == kind && k.isEmpty(to) && d.carry(k, m, from, to) {
			return uint32(to.Index)
		}
	}
	return d.slot(k, t)
}

// words throws what a cap is asked for, so that most of it can be done.
func (d *dice) words(k *Kernel, m *model, t *thread, c api.Cap, regs *[16]uint32) {
	label, many := d.throw(25), d.pick(0, 1, 2, 3, 4, 4, 4, 4, 4, 4, 4, 4, 4, 4, 4, 4, 4, 4, 9)
	var other int
	for range 200 {
		l := 1 + d.throw(23)
		if _, o, ok := wants(c.Kind, l); ok {
			label, other = l, o
			break
		}
	}
	if c.Kind == api.Table && other == 0 && d.throw(2) == 0 {
		label, other = api.DoMapTable, api.Table
		if _, ok := k.mapped[api.Ref{Node: t.node, Index: int(regs[0])}]; ok {
			label, other = api.DoUnTable, 0
		}
	}
	if d.throw(15) > 0 {
		regs[1] = uint32(16*label + many)
	}
	regs[6] = d.slot(k, t)
	if other > 0 {
		regs[6] = d.slotOf(k, m, t, other)
	}
	regs[7] = uint32(d.throw(16))
	if d.throw(12) == 0 {
		return
	}
	switch {
	case label == api.DoRetype:
		kind, size := d.pick(1, 2, 4, 4, 5, 5, 6, 6, 6, 7, 7, 3), 1
		if kind == 1 {
			size = d.pick(1, 2, 4, 8)
		}
		count := d.pick(1, 1, 2, 3, 7, 8, 8, 9)
		index := d.throw(16)
		for range 20 {
			at := api.Ref{Node: k.held(api.Ref{Node: t.node, Index: int(regs[6] & 15)}).Obj, Index: index}
			if x := (things{kind: kind, size: size, count: count, slot: at}); (&request{Kernel: k}).wanted(x) == api.OK {
				break
			}
			index, count = d.throw(16), 1+d.throw(count)
		}
		regs[2], regs[3], regs[4], regs[5] = uint32(kind), uint32(size), uint32(index), uint32(count)
	case c.Kind == api.CNode:
		regs[2], regs[3], regs[4] = uint32(d.throw(16)), uint32(d.throw(16)), uint32(d.pick(0, 0, 1, 5))
		for range 16 {
			at := api.Ref{Node: c.Obj, Index: int(regs[2])}
			_, parent := k.forest.First(at)
			if label < api.DoDelete && k.isEmpty(at) || label == api.DoDelete && k.held(at).Kind == api.CNode || label == api.DoRevoke && parent {
				break
			}
			regs[2] = uint32(d.throw(16))
		}
		if at := (api.Ref{Node: c.Obj, Index: int(regs[2])}); label == api.DoDelete {
			d.fill(k, m, t, at)
		}
	case label == api.DoMap:
		regs[2], regs[3] = uint32(d.pick(1, 4, 5, 6, 31, 32, 33, 1023, 1024)), uint32(d.pick(0, 1, 2, 3, 4, 5, 7, 7, 15))
	case label == api.DoMapTable:
		regs[2] = uint32(d.pick(1, 32, 33, 64, 65, 1023, 1024))
	case label == api.DoReadSys, label == api.DoWriteSys:
		regs[2], regs[3] = uint32(d.throw(9)), uint32(d.pick(0, 1, 3, 20, 300))
		if regs[2] == api.SysTable {
			regs[3] = uint32(d.throw(2)) << 31
		}
	case label == api.DoInject:
		regs[2], regs[3] = uint32(d.throw(65)), uint32(d.throw(257))
	case label == api.DoWriteReg:
		regs[2], regs[3] = uint32(d.throw(18)), uint32(d.number())
	}
}

// revive lets threads run again that wait, or are off: else most machines were idle soon.
func (d *dice) revive(k *Kernel, m *model) {
	if k.Current() >= 0 && d.throw(20) > 0 {
		return
	}
	x := m.threads[d.throw(len(m.threads))]
	t := k.thread(x.id)
	m.cancel(x)
	x.faulted, x.off = false, false
	m.wakeTask(x)
	m.settle()
	k.mail.Cancel(x.id)
	t.faulted, t.off = false, false
	k.queue.Wake(x.id)
	k.queue.Settle()
}

// bring moves any slot's cap to the one who is current, or into any node: else most would soon have nothing of interest.
func (d *dice) bring(k *Kernel, m *model) {
	t, full := k.thread(k.Current()), k.Full()
	if t == nil || len(full) == 0 || d.throw(3) > 0 {
		return
	}
	to := api.Ref{Node: t.node, Index: d.throw(16)}
	if c := k.held(full[d.throw(len(full))]); c.Kind == api.CNode && d.throw(2) == 0 {
		to.Node = c.Obj
	}
	d.carry(k, m, full[d.throw(len(full))], to)
}

// fill lays copies of a thread's cap into a node that is to be deleted: it takes more than an event then.
func (d *dice) fill(k *Kernel, m *model, t *thread, in api.Ref) {
	from := api.Ref{Node: t.node, Index: d.throw(16)}
	node, c := k.held(in), k.held(from)
	if node.Kind != api.CNode || c.Kind != api.Endpoint && c.Kind != api.Note && c.Kind != api.Tcb {
		return
	}
	for index := range 7 {
		if at := (api.Ref{Node: node.Obj, Index: index}); k.isEmpty(at) {
			k.lay(at, c, from)
			m.caps[at] = c
			m.child(from, at)
		}
	}
}

// free lets go of all that was made of a piece of memory, so that it comes back when it is asked next.
func (d *dice) free(k *Kernel, m *model) {
	full := k.Full()
	if len(full) == 0 || d.throw(15) > 0 {
		return
	}
	at := full[d.throw(len(full))]
	if k.held(at).Kind != api.Untyped {
		return
	}
	for child, ok := k.forest.First(at); ok; child, ok = k.forest.First(at) {
		k.units, m.units = 0, 0
		k.empty(child)
		m.empty(child)
	}
	k.queue.Settle()
	m.settle()
}

func (d *dice) carry(k *Kernel, m *model, from, to api.Ref) bool {
	if from.Node == 0 || k.slots.Radix(to.Node) == 0 {
		return false
	}
	r := &request{Kernel: k, c: nodeCap(to.Node), other: k.held(from), otherAt: from}
	r.words[0] = uint32(to.Index)
	e := r.move()
	if f := m.onNode(api.DoMove, r.c, r.other, from, [4]int{to.Index}); e != f {
		panic(fmt.Sprint("carried ", e, f))
	}
	return e == api.OK
}

// safe keeps a guest's table, and the number of its space, to what the buffer cannot show.
func safe(regs *[16]uint32, c api.Cap) {
	if c.Kind != api.Vcpu || regs[1]>>4&(1<<20-1) != api.DoWriteSys {
		return
	}
	switch regs[2] {
	case 0:
		regs[3] &= 1 << 31
	case 1:
		regs[3] = 5
	}
}

func (d *dice) event(m *model) api.Event {
	switch d.throw(12) {
	case 0:
		return api.Event{Kind: api.EvTick}
	case 1:
		n := d.throw(16)
		for i := 0; i < 16 && !m.wires[n].on; i++ {
			n = d.throw(16)
		}
		return api.Event{Kind: api.EvIrq, N: n}
	case 2:
		return api.Event{Kind: api.EvDma, N: d.throw(16), At: d.throw(4 * 64), Write: d.throw(2) == 0, Value: uint32(d.throw(256))}
	case 3:
		return api.Event{Kind: api.EvEvict, N: d.throw(8)}
	case 4:
		return api.Event{Kind: d.throw(7), N: d.throw(18) - 1, At: d.pick(-1, 0, 7, 8, 65535, 65536), Write: true, Value: uint32(d.pick(0, 255, 256))}
	}
	return api.Event{Kind: api.EvStep, At: d.throw(8)}
}

// differs tells what the kernel and the model tell otherwise; empty: nothing.
func differs(k *Kernel, m *model) string {
	if k.Current() != m.current || k.Units() != m.units {
		return fmt.Sprint("current, units ", k.Current(), m.current, k.Units(), m.units)
	}
	for i, n := range k.Threads() {
		x := m.threads[i]
		c, _ := k.Cpu(n)
		if c != (api.Cpu{Regs: x.regs, Pc: x.pc, Sys: x.sys}) || n != x.id {
			return fmt.Sprintf("cpu of %d:\n%v\n%v", n, c, x)
		}
		state, on, off := k.State(n)
		task, _ := k.Task(n)
		want := api.Task{Id: x.id, Priority: x.priority, Domain: x.domain, Slice: x.slice, Awake: x.awake}
		if state != x.state || on != x.on || off != x.off || task != want || k.Vmid(n) != x.vmid || k.Node(n) != x.node {
			return fmt.Sprintf("thread %d: %d %d %v %v %d\n%v", n, state, on, off, task, k.Vmid(n), x)
		}
		if k.thread(n).faulted != x.faulted || k.mail.Caller(n) != x.caller {
			return fmt.Sprintf("faulted or caller of %d", n)
		}
		if x.vcpu >= 0 && !reflect.DeepEqual(k.Virtual(n), x.virtual.All()) {
			return fmt.Sprintf("virtual of %d: %v %v", n, k.Virtual(n), x.virtual.All())
		}
	}
	if s := differsInSlots(k, m); s != "" {
		return s
	}
	return differsInMemory(k, m)
}

func differsInSlots(k *Kernel, m *model) string {
	if len(k.Full()) != len(m.caps) || len(k.List()) != len(m.caps) || len(k.mapped) != len(m.mapped) {
		return fmt.Sprint("slots ", k.Full(), len(m.caps), k.List())
	}
	for _, at := range k.Full() {
		if c, e := k.Slot(at); c != m.caps[at] || e != api.OK {
			return fmt.Sprint("slot ", at, c, m.caps[at])
		}
		x, ok := k.Mapped(at)
		if y, has := m.mapped[at]; x != y || ok != has {
			return fmt.Sprint("mapped ", at, x, y)
		}
	}
	list, n, told := k.List(), 0, ""
	m.walk(func(_, x *family, depth int) {
		if list[n] != x.at || k.Depth(x.at) != depth {
			told = fmt.Sprint("list ", n, list[n], x.at, depth)
		}
		n++
	})
	return told
}

func differsInMemory(k *Kernel, m *model) string {
	for v := range 16 {
		l := k.Mappings(v)
		for _, x := range l {
			if y, _ := m.mapping(v, x.Page); x != y {
				return fmt.Sprint("mapping ", x, y)
			}
		}
		n := 0
		for _, y := range m.maps {
			if y.Vmid == v {
				n++
			}
		}
		if n != len(l) || k.Stream(v) != m.streams[v] {
			return fmt.Sprint("mappings, stream ", l, m.maps, k.Stream(v), m.streams[v])
		}
	}
	if t := k.Tables(); len(t) != len(m.inUse()) || len(t) > 0 && !reflect.DeepEqual(t, m.inUse()) {
		return fmt.Sprint("tables ", t, m.inUse())
	}
	for _, g := range k.Regions() {
		if m.regions[g.First] != g {
			return fmt.Sprint("region ", g)
		}
	}
	if len(k.Regions()) != len(m.regions) {
		return "regions"
	}
	for i := range k.Frames() * 16 {
		if w, e := k.Load(4*i, 4); w != m.get(4*i, 4) || e != api.OK {
			return fmt.Sprintf("word %d: %x %x", i, w, m.get(4*i, 4))
		}
	}
	return ""
}

// outcome is what a step came to: of a cap that was asked its kind and the label, else 0; the cause, the error.
type outcome struct {
	kind, label, cause int
	e                  api.Errno
}

// TestThrown holds thrown machines, and what comes to them, against the model, and asks behind each event what always holds. The model has neither buffers nor a bank, and sixteen list registers.
func TestThrown(t *testing.T) {
	seen := map[outcome]int{}
	for seed := range 300 {
		d := &dice{uint64(seed)}
		b := d.descriptor()
		k, e := New(b)
		if e != api.OK {
			t.Fatal(e)
		}
		m := newModel(b)
		d.prepare(k, m)
		if s := differs(k, m); s != "" {
			t.Fatal(seed, "at the start: ", s)
		}
		for i := range 250 {
			what := d.happen(k, m)
			n, e := k.Event(what.event)
			o, f := m.event(what.event)
			if n != o || e != f {
				t.Fatal(seed, i, what, n, e, o, f)
			}
			if s := differs(k, m) + sound(b, k); s != "" || k.Units() > api.UnitsAnEvent {
				t.Fatal(seed, i, what, n, e, s)
			}
			seen[outcome{what.kind, what.label, n, e}]++
		}
	}
	testSeen(t, seen)
}

// testSeen fails, if what was thrown has not come to what it is thrown for.
func testSeen(t *testing.T, seen map[outcome]int) {
	for kind := range 11 {
		for label := range 24 {
			if _, _, ok := wants(kind, label); ok && seen[outcome{kind, label, api.TrapSvc, api.OK}] == 0 {
				t.Error("never done: ", kind, label)
			}
		}
	}
	for _, x := range []outcome{
		{api.Untyped, api.DoRetype, api.TrapSvc, api.ErrAgain}, {api.Untyped, api.DoRetype, api.TrapSvc, api.ErrFull}, {api.Untyped, api.DoRetype, api.TrapSvc, api.ErrRoom},
		{api.CNode, api.DoDelete, api.TrapSvc, api.ErrAgain}, {api.CNode, api.DoRevoke, api.TrapSvc, api.ErrAgain},
		{0, 0, api.TrapSvc, api.ErrReply}, {0, 0, api.TrapSvc, api.OK}, {0, 0, api.TrapHvc, api.ErrFault}, {0, 0, api.TrapMaint, api.ErrFault}, {0, 0, 0, api.ErrIdle},
	} {
		if seen[x] == 0 {
			t.Error("never seen: ", x)
		}
	}
}

// prepare gives guests numbers of their spaces other than those of the spaces without their tables, and something to hear.
func (d *dice) prepare(k *Kernel, m *model) {
	for _, x := range m.threads {
		if x.vcpu >= 0 {
			x.sys[api.SysTable], x.sys[api.SysAsid] = uint32(d.throw(2))<<31, 5
			k.guests.Write(x.vcpu, api.SysTable, x.sys[api.SysTable])
			k.guests.Write(x.vcpu, api.SysAsid, x.sys[api.SysAsid])
			for range 6 {
				id, priority, level := d.throw(64), d.throw(256), d.throw(2) == 0
				k.guests.Inject(x.vcpu, id, priority, level)
				x.virtual.Inject(id, priority, level)
			}
		}
	}
}

// happening is an event, and what a step of it is to ask.
type happening struct {
	event       api.Event
	kind, label int
}

// happen throws what comes next.
func (d *dice) happen(k *Kernel, m *model) happening {
	what := happening{event: d.event(m)}
	d.revive(k, m)
	d.bring(k, m)
	d.free(k, m)
	if what.event.Kind != api.EvStep {
		return what
	}
	d.poke(k, m)
	t := k.thread(k.Current())
	if t == nil {
		return what
	}
	c, _, _ := k.find(t, t.regs[0])
	safe(&t.regs, c)
	m.of(m.current).regs = t.regs
	if k.guests.Of(t.number) < 0 && t.pc < 4*api.SysNBSend {
		what.kind, what.label = c.Kind, t.label()
	}
	return what
}
