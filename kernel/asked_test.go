package kernel

import (
	"slices"

	"viceroy/api"
	"viceroy/caps"
)

// What the model does with a syscall.

func (m *model) syscall(t *being, n int) api.Errno {
	switch n {
	case 6:
		return m.reply(t)
	case 8:
		m.yield()
		return 0
	case 1, 2, 3, 4, 5, 7:
	default:
		return api.ErrCall
	}
	if n == 7 {
		m.reply(t)
	}
	c, at, e := m.find(t, t.regs[0])
	if e != 0 {
		return e
	}
	if n <= 3 {
		switch {
		case c.Kind != api.Endpoint && c.Kind != api.Note:
			return m.ask(t, c, at)
		case c.Rights&2 == 0, c.Kind == api.Endpoint && n == 1 && c.Rights&8 == 0:
			return api.ErrRights
		case c.Kind == api.Note:
			m.signal(c)
		default:
			t.grants = c.Rights&8 != 0
			m.hand(t, c.Obj, t.message(c.Badge), n == 1, n != 3, true)
		}
		return 0
	}
	switch {
	case c.Kind != api.Endpoint && c.Kind != api.Note:
		return api.ErrKind
	case c.Rights&1 == 0:
		return api.ErrRights
	case c.Kind == api.Note:
		m.receiveSignal(t, c.Obj, n != 5)
	default:
		m.receive(t, c.Obj, n != 5)
	}
	return 0
}

// wants is the table of chapter 19's operations: words, and the other cap's kind; -1: any; 0: none.
func wants(kind, label int) (words, other int, ok bool) {
	for _, l := range [][4]int{
		{1, 1, 4, 2}, {2, 2, 2, -1}, {2, 3, 3, -1}, {2, 4, 1, -1}, {2, 5, 1, 0}, {2, 6, 1, 0},
		{3, 7, 0, 0}, {3, 8, 0, 0}, {3, 9, 1, 0}, {3, 10, 2, 0}, {3, 11, 1, 0},
		{6, 12, 2, 7}, {6, 13, 0, 0}, {7, 14, 1, 7}, {7, 15, 0, 0}, {7, 16, 0, 0},
		{8, 17, 3, 0}, {8, 18, 1, 0}, {8, 19, 2, 0}, {9, 20, 0, 7}, {9, 21, 0, 0}, {10, 22, 0, 5}, {10, 23, 0, 0},
	} {
		if l[0] == kind && l[1] == label {
			return l[2], l[3], true
		}
	}
	return 0, 0, false
}

func (m *model) ask(t *being, c api.Cap, at api.Ref) api.Errno {
	x := t.message(0)
	words, other, ok := wants(c.Kind, x.Label)
	if !ok {
		return api.ErrCall
	}
	if x.Many < words {
		return api.ErrArg
	}
	var o api.Cap
	var from api.Ref
	if other != 0 {
		var e api.Errno
		o, from, e = m.find(t, t.regs[6])
		if e != 0 {
			return e
		}
		if other > 0 && o.Kind != other {
			return api.ErrKind
		}
	}
	a := [4]int{int(t.regs[2]), int(t.regs[3]), int(t.regs[4]), int(t.regs[5])}
	switch c.Kind {
	case api.Untyped:
		return m.retype(c, at, o, a)
	case api.CNode:
		return m.onNode(x.Label, c, o, from, a)
	case api.Tcb:
		return m.onThread(t, m.of(c.Obj), x.Label, a)
	case api.Vcpu:
		return m.onVcpu(t, c, x.Label, a)
	case api.Irq:
		return m.onLine(x.Label, c, o, from)
	}
	return m.onSpace(t, x.Label, c, at, m.spaceOf(o.Obj), a)
}

func (m *model) retype(c api.Cap, at api.Ref, o api.Cap, a [4]int) api.Errno {
	kind, size, index, count := a[0], a[1], a[2], a[3]
	switch {
	case kind != 1 && kind != 2 && kind != 4 && kind != 5 && kind != 6 && kind != 7:
		return api.ErrKind
	case index > 15 || count < 1 || count > 16-index:
		return api.ErrArg
	}
	for i := range count {
		if m.caps[api.Ref{Node: o.Obj, Index: index + i}].Kind != 0 {
			return api.ErrFull
		}
	}
	g := m.regions[c.Obj]
	if _, x := m.kin(at); len(x.kids) == 0 {
		for g.Mark > 0 {
			if m.units == 6 {
				m.regions[c.Obj] = g
				return api.ErrAgain
			}
			m.units++
			g.Mark--
			m.clear(g.First + g.Mark)
		}
		m.regions[c.Obj] = g
	}
	if kind != 1 && size != 1 || !slices.Contains([]int{1, 2, 4, 8, 16, 32, 64, 128, 256, 512}, size) {
		return api.ErrRoom
	}
	if count > 8 {
		return api.ErrArg
	}
	first := g.First + g.Mark
	for first%size != 0 {
		first++
	}
	switch {
	case first+count*size > g.First+g.Frames:
		return api.ErrRoom
	case kind == api.CNode && o.Obj >= first:
		return api.ErrDerive
	case kind == api.Untyped && first == g.First:
		return api.ErrFull
	}
	g.Mark = first + count*size - g.First
	m.regions[c.Obj] = g
	for i := range count {
		x := api.Cap{Kind: kind, Obj: first + i*size}
		switch kind {
		case api.Untyped:
			m.regions[x.Obj] = api.Region{First: x.Obj, Frames: size}
		case api.CNode:
			x.Radix, x.GuardBits = 4, 12
			m.nodes[x.Obj] = 1
		case api.Endpoint:
			x.Rights = 11
		case api.Note:
			x.Rights = 3
		case api.Frame:
			x.Rights = 7
		}
		to := api.Ref{Node: o.Obj, Index: index + i}
		m.caps[to] = x
		m.child(at, to)
	}
	return 0
}

func (m *model) onNode(label int, c, o api.Cap, from api.Ref, a [4]int) api.Errno {
	if a[0] > 15 {
		return api.ErrArg
	}
	to := api.Ref{Node: c.Obj, Index: a[0]}
	if label == api.DoDelete {
		return m.empty(to)
	}
	if label == api.DoRevoke {
		for {
			_, x := m.kin(to)
			if x == nil || len(x.kids) == 0 {
				return 0
			}
			if e := m.empty(x.kids[0].at); e != 0 {
				return e
			}
		}
	}
	full := m.caps[to].Kind != 0
	cannot := slices.Contains([]int{api.Untyped, api.Table, api.Stream}, o.Kind)
	unfit := o.Kind == api.CNode && to.Node >= o.Obj
	made := o
	switch label {
	case api.DoCopy:
		if full {
			return api.ErrFull
		}
		if cannot || unfit {
			return api.ErrDerive
		}
		made = caps.Mask(o, a[1])
	case api.DoMint:
		var e api.Errno
		made, e = caps.Mint(o, a[1], a[2], o.Guard, o.GuardBits)
		if e != 0 {
			return e
		}
		fallthrough
	case api.DoMove:
		if full {
			return api.ErrFull
		}
		if unfit {
			return api.ErrDerive
		}
	}
	m.caps[to] = made
	if label != api.DoMove {
		m.child(from, to)
		return 0
	}
	delete(m.caps, from)
	if x, ok := m.mapped[from]; ok {
		m.mapped[to] = x
		delete(m.mapped, from)
	}
	_, x := m.kin(from)
	x.at = to
	return 0
}

func (m *model) onThread(t, x *being, label int, a [4]int) api.Errno {
	switch label {
	case api.DoSuspend:
		m.cancel(x)
		x.faulted, x.off = false, true
		m.stopTask(x)
	case api.DoResume:
		m.cancel(x)
		x.faulted, x.off = false, false
		m.wakeTask(x)
	case api.DoReadReg:
		if a[0] > 16 {
			return api.ErrArg
		}
		if a[0] == 16 {
			t.regs[2] = uint32(x.pc)
		} else {
			t.regs[2] = x.regs[a[0]]
		}
	case api.DoWriteReg:
		if t == x || a[0] > 16 {
			return api.ErrArg
		}
		if a[0] == 16 {
			x.pc = a[1] % 65536
		} else {
			x.regs[a[0]] = uint32(a[1])
		}
	case api.DoPriority:
		if a[0] > t.priority {
			return api.ErrRights
		}
		x.priority = a[0]
		if slices.Contains(m.ready, x.id) {
			m.stopTask(x)
			m.wakeTask(x)
		}
	}
	return 0
}

func (m *model) onVcpu(t *being, c api.Cap, label int, a [4]int) api.Errno {
	i := slices.IndexFunc(m.threads, func(x *being) bool { return x.vcpu == c.Obj })
	g := m.threads[i]
	switch label {
	case api.DoInject:
		return g.virtual.Inject(a[0], a[1], a[2] != 0)
	case api.DoReadSys:
		if a[0] > 7 {
			return api.ErrArg
		}
		t.regs[2] = g.sys[a[0]]
	case api.DoWriteSys:
		if a[0] > 5 {
			return api.ErrArg
		}
		g.sys[a[0]] = uint32(a[1])
	}
	return 0
}

func (m *model) onLine(label int, c, o api.Cap, from api.Ref) api.Errno {
	w := &m.wires[c.Obj]
	if label == api.DoAck {
		if !w.active {
			return api.ErrActive
		}
		w.active = false
		return 0
	}
	if o.Rights&2 == 0 {
		return api.ErrRights
	}
	at := api.Ref{Index: c.Obj}
	if m.caps[at].Kind != 0 {
		m.finish(at)
	}
	m.caps[at] = o
	m.child(from, at)
	w.on = true
	return 0
}

func (m *model) onSpace(t *being, label int, c api.Cap, at api.Ref, vmid int, a [4]int) api.Errno {
	old, has := m.mapped[at]
	switch label {
	case api.DoMap, api.DoMapTable, api.DoAttach:
		if vmid == 0 {
			return api.ErrSpace
		}
	case api.DoUnmap, api.DoUnTable:
		if !has {
			return api.ErrUnmapped
		}
	}
	switch label {
	case api.DoMap:
		page, rights := a[0], a[1]&c.Rights
		own := has && old.Vmid == vmid && old.Page == page
		_, full := m.mapping(vmid, page)
		switch {
		case has && !own, full && !own:
			return api.ErrMapped
		case page > 1023 || rights == 0:
			return api.ErrArg
		case m.tableOf(vmid, page) < 0:
			return api.ErrTable
		}
		m.mapAt(vmid, page, c.Obj, rights)
		m.mapped[at] = api.Mapping{Vmid: vmid, Page: page, Frame: c.Obj, Rights: rights}
	case api.DoUnmap:
		m.unmapAt(old.Vmid, old.Page)
		delete(m.mapped, at)
	case api.DoMapTable:
		switch {
		case a[0] > 1023:
			return api.ErrArg
		case m.tableOf(vmid, a[0]) >= 0:
			return api.ErrMapped
		case m.taken(c.Obj):
			return api.ErrTable
		}
		m.clear(c.Obj)
		m.half(m.root[vmid], a[0]/32, 1+64*c.Obj)
		m.tables = append(m.tables, held{vmid, a[0] / 32, c.Obj})
		m.mapped[at] = api.Mapping{Vmid: vmid, Page: a[0] / 32 * 32, Frame: c.Obj}
	case api.DoUnTable:
		m.endTable(at)
	case api.DoAssign:
		v := slices.Index(m.root[1:], 0) + 1
		switch {
		case m.taken(c.Obj):
			return api.ErrTable
		case v == 0:
			return api.ErrSpace
		}
		m.root[v] = c.Obj
		m.clear(c.Obj)
		t.regs[2] = uint32(v)
	case api.DoAttach:
		m.streams[c.Obj] = vmid
	case api.DoDetach:
		m.streams[c.Obj] = 0
	}
	return 0
}
