package kernel

import (
	"maps"

	"viceroy/api"
	"viceroy/pte"
)

// isLast tells whether no other slot has a cap of the same object.
func (k *Kernel) isLast(at api.Ref, c api.Cap) bool {
	_, shared := k.other(at, c)
	return !shared
}

// empty empties a slot, with all that is in it, as far as units go.
func (k *Kernel) empty(at api.Ref) api.Errno {
	for !k.isEmpty(at) {
		if k.units >= api.UnitsAnEvent {
			return api.ErrAgain
		}
		k.units++
		k.finish(k.goesFirst(at))
	}
	return api.OK
}

// goesFirst is the slot that is finished first, if one is to be emptied: what is in a node goes ahead of the node. It ends, for nodes' numbers rise on the way.
func (k *Kernel) goesFirst(at api.Ref) api.Ref {
deeper:
	for {
		c := k.held(at)
		if c.Kind != api.CNode || !k.isLast(at, c) {
			return at
		}
		for index := nodeSlots - 1; index >= 0; index-- {
			in := api.Ref{Node: c.Obj, Index: index}
			if !k.isEmpty(in) {
				at = in
				continue deeper
			}
		}
		return at
	}
}

// finish empties one slot; with an object's last cap its use ends. What it has mapped is no more: nothing but tables and frames is mapped.
func (k *Kernel) finish(at api.Ref) {
	c := k.held(at)
	if k.isLast(at, c) {
		k.endObject(c)
	}
	switch c.Kind {
	case api.Table:
		k.endTable(at, c)
	case api.Frame:
		k.unmap(at)
	}
	k.slots.Put(at, api.Cap{})
	k.forest.Remove(at)
}

// endObject ends what nobody has a cap of any more.
func (k *Kernel) endObject(c api.Cap) {
	switch c.Kind {
	case api.Endpoint:
		for _, t := range k.mail.CancelAll(c.Obj) {
			k.release(k.thread(t))
		}
	case api.Note:
		k.endNote(c.Obj)
	case api.CNode:
		k.slots.DropNode(c.Obj)
	case api.Untyped:
		k.pool.Drop(c.Obj)
	case api.Irq:
		k.finishLine(c.Obj)
		k.lines.Enable(c.Obj, false)
	case api.Stream:
		k.spaces.Detach(c.Obj)
	}
}

// endNote lets all who wait at a notification go.
func (k *Kernel) endNote(note int) {
	for _, t := range k.threads {
		if state, on := k.mail.State(t.number); state == api.BlockedNote && on == note {
			k.mail.Cancel(t.number)
			k.release(t)
		}
	}
}

// finishLine takes a line's notification away, if it has one.
func (k *Kernel) finishLine(line int) {
	if at := lineSlot(line); !k.isEmpty(at) {
		k.finish(at)
	}
}

// release lets a thread go on whose wait has come to nothing: who had faulted does its instruction again.
func (k *Kernel) release(t *thread) {
	if !t.faulted {
		t.regs[errorRegister] = uint32(api.ErrEndpoint)
	}
	t.faulted = false
	k.wake(t)
}

// unmap takes away what a frame's slot has mapped, if anything.
func (k *Kernel) unmap(at api.Ref) {
	if m, ok := k.mapped[at]; ok {
		k.spaces.Unmap(m.Vmid, m.Page)
		delete(k.mapped, at)
	}
}

// endTable lets a slot's table be none, whether it is mapped, or a root.
func (k *Kernel) endTable(at api.Ref, c api.Cap) {
	if m, ok := k.mapped[at]; ok {
		k.spaces.UnmapTable(m.Vmid, m.Page)
		k.forget(func(x api.Mapping) bool {
			return x.Vmid == m.Vmid && pte.Index(x.Page, 0) == pte.Index(m.Page, 0)
		})
	}
	if vmid := k.spaceOf(c.Obj); vmid != noSpace {
		k.endSpace(vmid)
	}
}

func (k *Kernel) endSpace(vmid int) {
	k.spaces.Free(vmid)
	k.forget(func(x api.Mapping) bool { return x.Vmid == vmid })
	for _, t := range k.threads {
		if t.vmid == vmid {
			t.vmid = noSpace
		}
	}
}

// forget lets slots have mapped nothing, if what they have mapped goes.
func (k *Kernel) forget(goes func(api.Mapping) bool) {
	maps.DeleteFunc(k.mapped, func(_ api.Ref, m api.Mapping) bool { return goes(m) })
}

// spaceOf is the space of a root; noSpace, if it is none's.
func (k *Kernel) spaceOf(root int) int {
	for vmid := noSpace + 1; vmid < api.Vmids; vmid++ {
		if k.spaces.Root(vmid) == root {
			return vmid
		}
	}
	return noSpace
}
