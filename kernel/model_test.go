package kernel

import (
	"slices"

	"viceroy/api"
	"viceroy/caps"
	"viceroy/isa"
	"viceroy/vgic"
)

// being is a thread of the model: it knows itself where it waits, and whether it runs.
type being struct {
	id, vmid, node, vcpu        int
	handler                     uint32
	regs                        [16]uint32
	pc                          int
	faulted, off, grants, awake bool
	priority, domain, slice     int
	state, on, came, caller     int
	says                        api.Message
	call                        bool
	sys                         [8]uint32
	virtual                     *vgic.Vgic
}

// family is a slot, and what was derived from it.
type family struct {
	at   api.Ref
	kids []*family
}

// held is a table that is mapped.
type held struct{ vmid, index, frame int }

// wire is a line of the interrupt controller: all have one priority, so that one at a time is served.
type wire struct{ on, pending, active bool }

// model is what the chapter says, told in another way: one struct without layers, without any buffer, bank or list register, lists that are gone through each time.
type model struct {
	mem     []byte
	nodes   map[int]int
	caps    map[api.Ref]api.Cap
	top     *family
	mapped  map[api.Ref]api.Mapping
	regions map[int]api.Region
	threads []*being
	ready   []int
	current int
	table   []api.Turn
	turn    int
	left    int
	lit     map[int]int
	root    [16]int
	tables  []held
	maps    []api.Mapping
	streams [16]int
	wires   [16]wire
	units   int
	clock   int
}

func newModel(b api.Boot) *model {
	m := &model{
		mem: make([]byte, 64*b.Frames), nodes: map[int]int{0: 1}, caps: map[api.Ref]api.Cap{}, top: &family{},
		mapped: map[api.Ref]api.Mapping{}, regions: map[int]api.Region{}, lit: map[int]int{}, current: -1, table: b.Table,
	}
	if len(m.table) == 0 {
		m.table = []api.Turn{{Domain: 0, Ticks: 1000}}
	}
	m.left = m.table[0].Ticks
	next := 1
	take := func() int { next++; return next - 1 }
	var roots, data, vcpus, pieces []int
	for i, p := range b.Progs {
		tcb, node, root, table, code := take(), take(), take(), take(), take()
		x := &being{id: tcb, node: node, vmid: i + 1, handler: uint32(p.Handler), priority: p.Priority, domain: p.Domain, slice: 4, vcpu: -1, state: 0, on: -1, caller: -1}
		m.nodes[node] = 1
		m.root[i+1] = root
		m.tables = append(m.tables, held{i + 1, 0, table})
		m.half(root, 0, 1+64*table)
		m.mapAt(i+1, 0, code, 5)
		for k, w := range p.Code {
			m.put(64*code+4*k, 4, w)
		}
		for k := range p.Data {
			data = append(data, take())
			m.mapAt(i+1, 1+k, data[len(data)-1], 3)
		}
		if p.Guest {
			x.vcpu = take()
			x.sys[6] = uint32(x.vcpu)
			x.virtual, _ = vgic.New(16)
		}
		roots, vcpus = append(roots, root), append(vcpus, x.vcpu)
		m.threads = append(m.threads, x)
		m.wakeTask(x)
	}
	endpoints := next
	notes := next + b.Endpoints
	next = notes + b.Notes
	for _, size := range b.Pieces {
		for next%size != 0 {
			next++
		}
		pieces = append(pieces, next)
		m.regions[next] = api.Region{First: next, Frames: size}
		next += size
	}
	first := map[[2]int]api.Ref{}
	for i, p := range b.Progs {
		for k, s := range p.Shares {
			c := api.Cap{Kind: s.Kind, Rights: s.Rights, Badge: s.Badge}
			switch s.Kind {
			case api.Endpoint:
				c.Obj = endpoints + s.N
			case api.Note:
				c.Obj = notes + s.N
			case api.Frame:
				c.Obj = data[s.N]
			case api.Table:
				c.Obj = roots[s.N]
			case api.Tcb:
				c.Obj = m.threads[s.N].id
			case api.CNode:
				c = api.Cap{Kind: api.CNode, Obj: m.threads[s.N].node, Radix: 4, GuardBits: 12}
			case api.Vcpu:
				c.Obj = vcpus[s.N]
			case api.Untyped:
				c.Obj = pieces[s.N]
			case api.Stream, api.Irq:
				c.Obj = s.N
			}
			at := api.Ref{Node: m.threads[i].node, Index: 1 + k}
			m.caps[at] = c
			if old, ok := first[[2]int{c.Kind, c.Obj}]; ok {
				m.child(old, at)
			} else {
				first[[2]int{c.Kind, c.Obj}] = at
				m.top.kids = slices.Insert(m.top.kids, 0, &family{at: at})
			}
		}
	}
	m.settle()
	return m
}

// The memory, and what the tables in it say.

func (m *model) put(addr, size int, w uint32) {
	for i := range size {
		m.mem[addr+i] = byte(w >> (8 * i))
	}
}

func (m *model) get(addr, size int) uint32 {
	w := uint32(0)
	for i := range size {
		w += uint32(m.mem[addr+i]) << (8 * i)
	}
	return w
}

func (m *model) half(table, index, w int) { m.put(64*table+2*index, 2, uint32(w)) }

func (m *model) clear(frame int) { clear(m.mem[64*frame : 64*frame+64]) }

func (m *model) tableOf(vmid, page int) int {
	for _, h := range m.tables {
		if h.vmid == vmid && h.index == page/32 {
			return h.frame
		}
	}
	return -1
}

func (m *model) mapping(vmid, page int) (api.Mapping, bool) {
	for _, x := range m.maps {
		if x.Vmid == vmid && x.Page == page {
			return x, true
		}
	}
	return api.Mapping{}, false
}

func (m *model) mapAt(vmid, page, frame, rights int) {
	m.unmapAt(vmid, page)
	m.maps = append(m.maps, api.Mapping{Vmid: vmid, Page: page, Frame: frame, Rights: rights})
	m.half(m.tableOf(vmid, page), page%32, 3+4*rights+64*frame)
}

func (m *model) unmapAt(vmid, page int) {
	m.maps = slices.DeleteFunc(m.maps, func(x api.Mapping) bool { return x.Vmid == vmid && x.Page == page })
	m.half(m.tableOf(vmid, page), page%32, 0)
}

func (m *model) inUse() []int {
	var l []int
	for _, r := range m.root {
		if r > 0 {
			l = append(l, r)
		}
	}
	for _, h := range m.tables {
		l = append(l, h.frame)
	}
	slices.Sort(l)
	return l
}

func (m *model) taken(frame int) bool {
	return slices.Contains(m.inUse(), frame) || slices.ContainsFunc(m.maps, func(x api.Mapping) bool { return x.Frame == frame })
}

func (m *model) spaceOf(root int) int {
	for v := 1; v < 16; v++ {
		if m.root[v] == root {
			return v
		}
	}
	return 0
}

// single is what the other tables say of a page.
func (m *model) single(vmid, page int) (frame, rights int, f api.Fault) {
	switch {
	case vmid == 0:
		return 0, 0, api.Fault{Kind: api.FaultSize, Stage: 2, Page: page}
	case m.tableOf(vmid, page) < 0:
		return 0, 0, api.Fault{Kind: api.FaultMissing, Stage: 2, Page: page}
	}
	x, ok := m.mapping(vmid, page)
	if !ok {
		return 0, 0, api.Fault{Kind: api.FaultMissing, Stage: 2, Level: 1, Page: page}
	}
	return x.Frame, x.Rights, api.Fault{}
}

func (m *model) granted(vmid, page, want int) (frame int, f api.Fault) {
	frame, rights, f := m.single(vmid, page)
	if f.Kind == 0 && rights&want == 0 {
		return 0, api.Fault{Kind: api.FaultRights, Stage: 2, Level: 1, Page: page}
	}
	return frame, f
}

// reach is where in the memory an address of a thread is.
func (m *model) reach(t *being, addr, want int) (int, api.Fault) {
	page := addr / 64
	if t.vcpu < 0 || t.sys[0]>>31 == 0 {
		frame, f := m.granted(t.vmid, page, want)
		return 64*frame + addr%64, f
	}
	g := int(t.sys[0] & 1023)
	for level, index := range []int{page / 32, page % 32} {
		frame, f := m.granted(t.vmid, g, api.Read)
		if f.Kind != 0 {
			f.Walk = true
			return 0, f
		}
		w := m.get(64*frame+2*index, 2)
		leaf := w&2 != 0
		if w&1 == 0 || w&32 != 0 || !leaf && w&28 != 0 || leaf != (level == 1) {
			return 0, api.Fault{Kind: api.FaultMissing, Stage: 1, Level: level, Page: page}
		}
		if leaf && int(w>>2&7)&want == 0 {
			return 0, api.Fault{Kind: api.FaultRights, Stage: 1, Level: 1, Page: page}
		}
		g = int(w >> 6)
	}
	frame, f := m.granted(t.vmid, g, want)
	return 64*frame + addr%64, f
}

// Slots, and what was derived from what.

func (m *model) walk(do func(up, x *family, depth int)) {
	var into func(up *family, depth int)
	into = func(up *family, depth int) {
		for _, x := range slices.Clone(up.kids) {
			do(up, x, depth)
			into(x, depth+1)
		}
	}
	into(m.top, 0)
}

func (m *model) kin(at api.Ref) (up, x *family) {
	m.walk(func(u, y *family, _ int) {
		if y.at == at {
			up, x = u, y
		}
	})
	return up, x
}

func (m *model) child(parent, at api.Ref) {
	_, x := m.kin(parent)
	x.kids = slices.Insert(x.kids, 0, &family{at: at})
}

func (m *model) find(t *being, address uint32) (api.Cap, api.Ref, api.Errno) {
	at := api.Ref{Node: t.node, Index: int(address & 15)}
	switch {
	case address&0xfff0 != 0:
		return api.Cap{}, api.Ref{}, api.ErrGuard
	case m.nodes[t.node] == 0:
		return api.Cap{}, api.Ref{}, api.ErrNode
	case m.caps[at].Kind == 0:
		return api.Cap{}, api.Ref{}, api.ErrLookup
	}
	return m.caps[at], at, api.OK
}

func (m *model) isLast(at api.Ref) bool {
	n := 0
	for _, c := range m.caps {
		if caps.Same(c, m.caps[at]) {
			n++
		}
	}
	return n == 1
}

// goesFirst is told by recursion.
func (m *model) goesFirst(at api.Ref) api.Ref {
	c := m.caps[at]
	if c.Kind == api.CNode && m.isLast(at) {
		for i := 15; i >= 0; i-- {
			if in := (api.Ref{Node: c.Obj, Index: i}); m.caps[in].Kind != 0 {
				return m.goesFirst(in)
			}
		}
	}
	return at
}

func (m *model) empty(at api.Ref) api.Errno {
	for m.caps[at].Kind != 0 {
		if m.units == 6 {
			return api.ErrAgain
		}
		m.units++
		m.finish(m.goesFirst(at))
	}
	return api.OK
}

func (m *model) finish(at api.Ref) {
	c := m.caps[at]
	if m.isLast(at) {
		switch c.Kind {
		case api.Endpoint:
			for _, t := range m.waiting(c.Obj, api.BlockedSend, api.BlockedRecv) {
				m.release(t)
			}
		case api.Note:
			for _, t := range m.threads {
				if t.state == api.BlockedNote && t.on == c.Obj {
					m.release(t)
				}
			}
		case api.CNode:
			delete(m.nodes, c.Obj)
		case api.Untyped:
			delete(m.regions, c.Obj)
		case api.Irq:
			if in := (api.Ref{Index: c.Obj}); m.caps[in].Kind != 0 {
				m.finish(in)
			}
			m.wires[c.Obj].on = false
		case api.Stream:
			m.streams[c.Obj] = 0
		}
	}
	if c.Kind == api.Table {
		m.endTable(at)
	}
	if x, ok := m.mapped[at]; ok && c.Kind == api.Frame {
		m.unmapAt(x.Vmid, x.Page)
	}
	delete(m.mapped, at)
	delete(m.caps, at)
	up, x := m.kin(at)
	i := slices.Index(up.kids, x)
	up.kids = slices.Replace(up.kids, i, i+1, x.kids...)
}

func (m *model) endTable(at api.Ref) {
	if x, ok := m.mapped[at]; ok {
		m.half(m.root[x.Vmid], x.Page/32, 0)
		m.cut(func(vmid, index int) bool { return vmid == x.Vmid && index == x.Page/32 })
	}
	if v := m.spaceOf(m.caps[at].Obj); v > 0 {
		m.cut(func(vmid, _ int) bool { return vmid == v })
		m.root[v] = 0
		for i := range m.streams {
			if m.streams[i] == v {
				m.streams[i] = 0
			}
		}
		for _, t := range m.threads {
			if t.vmid == v {
				t.vmid = 0
			}
		}
	}
}

// cut lets tables, and what is mapped by them, be mapped no more.
func (m *model) cut(goes func(vmid, index int) bool) {
	m.tables = slices.DeleteFunc(m.tables, func(h held) bool { return goes(h.vmid, h.index) })
	m.maps = slices.DeleteFunc(m.maps, func(x api.Mapping) bool { return goes(x.Vmid, x.Page/32) })
	for at, x := range m.mapped {
		if goes(x.Vmid, x.Page/32) {
			delete(m.mapped, at)
		}
	}
}

func (m *model) release(t *being) {
	if !t.faulted {
		t.regs[15] = 160
	}
	t.faulted = false
	m.cancel(t)
	m.wake(t)
}

// Who runs.

func (m *model) of(id int) *being {
	for _, t := range m.threads {
		if t.id == id {
			return t
		}
	}
	return nil
}

func (m *model) wakeTask(t *being) {
	if !t.awake {
		t.awake = true
		m.ready = append(m.ready, t.id)
	}
}

func (m *model) stopTask(t *being) {
	t.awake = false
	m.ready = slices.DeleteFunc(m.ready, func(id int) bool { return id == t.id })
	if m.current == t.id {
		m.current = -1
	}
}

func (m *model) yield() {
	m.of(m.current).slice = 4
	m.ready = append(m.ready, m.current)
	m.current = -1
}

func (m *model) tickTask() {
	if t := m.of(m.current); t != nil {
		if t.slice--; t.slice == 0 {
			m.yield()
		}
	}
	if m.left--; m.left > 0 {
		return
	}
	was := m.table[m.turn].Domain
	m.turn = (m.turn + 1) % len(m.table)
	m.left = m.table[m.turn].Ticks
	if m.current >= 0 && m.table[m.turn].Domain != was {
		m.ready = slices.Insert(m.ready, 0, m.current)
		m.current = -1
	}
}

func (m *model) settle() {
	domain := m.table[m.turn].Domain
	if t := m.of(m.current); t != nil && t.domain != domain {
		m.ready = append(m.ready, m.current)
		m.current = -1
	}
	var h *being
	for _, id := range m.ready {
		if t := m.of(id); t.domain == domain && (h == nil || t.priority > h.priority) {
			h = t
		}
	}
	c := m.of(m.current)
	if h == nil || c != nil && h.priority <= c.priority {
		return
	}
	m.ready = slices.DeleteFunc(m.ready, func(id int) bool { return id == h.id })
	if c != nil {
		m.ready = slices.Insert(m.ready, 0, c.id)
	}
	m.current = h.id
}

func (m *model) wake(t *being) {
	if t.state == 0 && !t.off {
		m.wakeTask(t)
	}
}

func (m *model) rest(t *being) {
	if t.state != 0 {
		m.stopTask(t)
	}
}

// Messages.

func (m *model) block(t *being, state, on int) {
	m.clock++
	t.state, t.on, t.came = state, on, m.clock
}

func (m *model) cancel(t *being) {
	for _, s := range m.threads {
		if s.caller == t.id {
			s.caller = -1
		}
	}
	t.state, t.on = 0, -1
}

// waiting are those who wait at a place, the first one first.
func (m *model) waiting(on int, states ...int) []*being {
	var l []*being
	for _, t := range m.threads {
		if t.on == on && slices.Contains(states, t.state) {
			l = append(l, t)
		}
	}
	slices.SortFunc(l, func(a, b *being) int { return a.came - b.came })
	return l
}

func (m *model) forgetCaller(t *being) {
	if t.caller >= 0 {
		m.of(t.caller).on = -1
		t.caller = -1
	}
}

// message is what a thread sends with a badge.
func (t *being) message(badge int) api.Message {
	x := api.Message{Label: int(t.regs[1]) / 16 % (1 << 20), Badge: badge, Many: min(int(t.regs[1])%16, 4)}
	for i := range x.Many {
		x.Words[i] = t.regs[2+i]
	}
	return x
}

func (t *being) deliver(x api.Message) {
	switch {
	case !t.faulted:
		t.regs[0], t.regs[1] = uint32(x.Badge), uint32(16*x.Label+x.Many)
		for i := range x.Many {
			t.regs[2+i] = x.Words[i]
		}
		return
	case x.Label != 0:
		t.off = true
	default:
		if x.Many > 0 {
			t.pc = int(x.Words[0] % 65536)
		}
		if x.Many > 1 {
			t.regs[0] = x.Words[1]
		}
	}
	t.faulted = false
}

func (m *model) bring(a, b *being) {
	if a.regs[6] == 0 || !a.grants {
		return
	}
	b.regs[6] = 0
	c, from, e := m.find(a, a.regs[6])
	to := api.Ref{Node: b.node, Index: int(b.regs[7] & 15)}
	if e != 0 || b.regs[7]&0xfff0 != 0 || m.nodes[b.node] == 0 || m.caps[to].Kind != 0 {
		return
	}
	if slices.Contains([]int{api.Untyped, api.Table, api.Stream}, c.Kind) || c.Kind == api.CNode && to.Node >= c.Obj {
		return
	}
	m.caps[to] = c
	m.child(from, to)
	b.regs[6] = 1
}

// hand gives a message to the first receiver, if there is one; else the sender waits, or not.
func (m *model) hand(t *being, ep int, x api.Message, call, block, brings bool) {
	l := m.waiting(ep, api.BlockedRecv)
	if len(l) == 0 {
		if block {
			t.says, t.call = x, call
			m.block(t, api.BlockedSend, ep)
		}
		m.rest(t)
		return
	}
	r := l[0]
	m.cancel(r)
	if call {
		m.block(t, api.BlockedReply, r.id)
		r.caller = t.id
	}
	r.deliver(x)
	if brings {
		m.bring(t, r)
	}
	m.wake(r)
	m.rest(t)
}

func (m *model) receive(t *being, ep int, block bool) {
	m.forgetCaller(t)
	l := m.waiting(ep, api.BlockedSend)
	if len(l) == 0 {
		if block {
			m.block(t, api.BlockedRecv, ep)
		} else {
			t.regs[0], t.regs[1] = 0, 0
		}
		m.rest(t)
		return
	}
	s := l[0]
	m.cancel(s)
	t.deliver(s.says)
	if s.call {
		m.block(s, api.BlockedReply, t.id)
		t.caller = s.id
	}
	if !s.faulted {
		m.bring(s, t)
	}
	m.wake(s)
}

func (m *model) receiveSignal(t *being, note int, block bool) {
	m.forgetCaller(t)
	badge, lit := m.lit[note]
	switch {
	case lit:
		delete(m.lit, note)
		t.deliver(api.Message{Badge: badge})
	case block:
		m.block(t, api.BlockedNote, note)
	default:
		t.regs[0], t.regs[1] = 0, 0
	}
	m.rest(t)
}

func (m *model) signal(c api.Cap) {
	if l := m.waiting(c.Obj, api.BlockedNote); len(l) > 0 {
		m.cancel(l[0])
		l[0].deliver(api.Message{Badge: c.Badge})
		m.wake(l[0])
		return
	}
	m.lit[c.Obj] |= c.Badge
}

func (m *model) reply(t *being) api.Errno {
	if t.caller < 0 {
		return api.ErrReply
	}
	r := m.of(t.caller)
	m.cancel(r)
	was := r.faulted
	r.deliver(t.message(0))
	if !was {
		t.grants = true
		m.bring(t, r)
	}
	m.wake(r)
	return 0
}

// Events.

func (m *model) event(e api.Event) (n int, err api.Errno) {
	ok := func(n, most int) bool { return n >= 0 && n <= most }
	switch {
	case e.Kind == 1 && ok(e.At, 7), e.Kind == 2, e.Kind == 3 && ok(e.N, 15), e.Kind == 5 && ok(e.N, 7):
	case e.Kind == 4 && ok(e.N, 15) && ok(e.At, 65535) && e.Value < 256:
	default:
		return 0, api.ErrEvent
	}
	m.units = 0
	switch e.Kind {
	case api.EvStep:
		n, err = m.step()
	case api.EvTick:
		if t := m.of(m.current); t != nil && t.vcpu >= 0 {
			t.sys[5]++
			if t.sys[5] == t.sys[3] && t.sys[3] != 0 {
				t.virtual.Inject(27, 10, false)
			}
		}
		m.tickTask()
	case api.EvIrq:
		m.wires[e.N].pending = true
	case api.EvDma:
		n, err = m.dma(e)
	}
	for i := range m.wires {
		w := &m.wires[i]
		if !w.on || !w.pending || slices.ContainsFunc(m.wires[:], func(w wire) bool { return w.active }) {
			continue
		}
		w.pending = false
		if c := m.caps[api.Ref{Index: i}]; c.Kind == api.Note {
			w.active = true
			m.signal(c)
		}
	}
	m.settle()
	return n, err
}

func (m *model) dma(e api.Event) (int, api.Errno) {
	want := api.Read
	if e.Write {
		want = api.Write
	}
	frame, f := m.granted(m.streams[e.N], e.At/64, want)
	if m.streams[e.N] == 0 || f.Kind != 0 {
		return 0, api.ErrFault
	}
	b := &m.mem[64*frame+e.At%64]
	if e.Write {
		*b = byte(e.Value)
	}
	return int(*b), 0
}

func (m *model) step() (int, api.Errno) {
	t := m.of(m.current)
	if t == nil {
		return 0, api.ErrIdle
	}
	trap := m.execute(t)
	switch {
	case trap.Cause == 0:
		return 0, 0
	case t.vcpu < 0 && trap.Cause == api.TrapWfi:
		t.pc = (t.pc + 4) % 65536
		m.yield()
		return trap.Cause, 0
	case t.vcpu < 0 && trap.Cause == api.TrapSvc:
		at := t.pc
		t.pc = (t.pc + 4) % 65536
		e := m.syscall(t, trap.Num)
		if e == api.ErrAgain {
			t.pc = at
		} else {
			t.regs[15] = uint32(e)
		}
		return trap.Cause, e
	}
	c, _, e := m.find(t, t.handler)
	if e != 0 || c.Kind != api.Endpoint || c.Rights&10 != 10 {
		t.off = true
		m.stopTask(t)
		return trap.Cause, api.ErrFault
	}
	t.faulted = true
	f := trap.Fault
	kind := f.Kind + 4*f.Stage + 16*f.Level
	if f.Walk {
		kind += 32
	}
	x := api.Message{Label: trap.Cause, Badge: c.Badge, Many: 4, Words: [4]uint32{uint32(trap.Num), uint32(trap.Addr), uint32(kind), uint32(f.Page)}}
	m.hand(t, c.Obj, x, true, true, false)
	return trap.Cause, api.ErrFault
}

// execute does an instruction: what it leaves, if it goes through, is written at its end.
func (m *model) execute(t *being) api.Trap {
	if t.pc%4 != 0 {
		return api.Trap{Cause: api.TrapAlign, Addr: t.pc}
	}
	at, f := m.reach(t, t.pc, api.Exec)
	if f.Kind != 0 {
		return api.Trap{Cause: api.TrapFetch, Addr: t.pc, Fault: f}
	}
	w := m.get(at, 4)
	i, e := isa.Decode(w)
	guests := i.Op == api.OpHvc || i.Op == api.OpMrs || i.Op == api.OpMsr || i.Op >= api.OpIar && i.Op <= api.OpTlbi
	if e != 0 || guests && t.vcpu < 0 {
		return api.Trap{Cause: api.TrapUndef, Num: int(w), Addr: t.pc}
	}
	a, b, c, next := &t.regs[i.A], t.regs[i.B], t.regs[i.C], (t.pc+4)%65536
	trap := api.Trap{Num: i.Imm, Addr: t.pc}
	switch i.Op {
	case api.OpMovi:
		*a = uint32(i.Imm)
	case api.OpAdd:
		*a = b + c
	case api.OpSub:
		*a = b - c
	case api.OpAnd:
		*a = b & c
	case api.OpXor:
		*a = b ^ c
	case api.OpShl:
		*a = b << (c % 32)
	case api.OpLdr, api.OpStr, api.OpLdrb, api.OpStrb:
		if trap := m.data(t, i); trap.Cause != 0 {
			return trap
		}
	case api.OpBeq, api.OpBne, api.OpBlt:
		if i.Op == api.OpBeq && *a == b || i.Op == api.OpBne && *a != b || i.Op == api.OpBlt && *a < b {
			next = i.Imm
		}
	case api.OpJmp:
		next = i.Imm
	case api.OpJal:
		*a, next = uint32(next), i.Imm
	case api.OpJr:
		next = int(b % 65536)
	case api.OpHvc:
		trap.Cause = api.TrapHvc
	case api.OpSvc:
		trap.Cause = api.TrapSvc
	case api.OpMrs:
		if i.Imm > 6 {
			trap.Cause = api.TrapSys
			return trap
		}
		*a = t.sys[i.Imm]
	case api.OpMsr:
		if i.Imm > 5 {
			trap.Cause = api.TrapSys
			return trap
		}
		t.sys[i.Imm] = b
		if i.Imm == api.SysMask {
			t.virtual.SetMask(int(min(b, 256)))
		}
	case api.OpWfi:
		if t.vcpu >= 0 {
			if _, ok := t.virtual.Next(); ok {
				break
			}
		}
		return api.Trap{Cause: api.TrapWfi, Addr: t.pc}
	case api.OpIar:
		*a = uint32(t.virtual.Ack())
	case api.OpEoi:
		if told, _ := t.virtual.End(int(min(b, 64))); told {
			trap = api.Trap{Cause: api.TrapMaint, Num: int(b), Addr: t.pc}
		}
	}
	if trap.Cause == 0 || trap.Cause == api.TrapMaint {
		t.pc = next
	}
	return trap
}

func (m *model) data(t *being, i api.Instr) api.Trap {
	addr := int((t.regs[i.B] + uint32(i.Imm)) % 65536)
	size, want, cause := 4, api.Read, api.TrapLoad
	if i.Op == api.OpLdrb || i.Op == api.OpStrb {
		size = 1
	}
	if i.Op == api.OpStr || i.Op == api.OpStrb {
		want, cause = api.Write, api.TrapStore
	}
	if addr%size != 0 {
		return api.Trap{Cause: api.TrapAlign, Addr: addr}
	}
	at, f := m.reach(t, addr, want)
	if f.Kind != 0 {
		return api.Trap{Cause: cause, Addr: addr, Fault: f}
	}
	if want == api.Write {
		m.put(at, size, t.regs[i.A])
	} else {
		t.regs[i.A] = m.get(at, size)
	}
	return api.Trap{}
}
