package kernel

import "viceroy/api"

// Current is the current thread; below 0: none.
func (k *Kernel) Current() int { return k.queue.Current() }

// Units is how many units the last event did.
func (k *Kernel) Units() int { return k.units }

// Threads are all.
func (k *Kernel) Threads() []int {
	var all []int
	for _, t := range k.threads {
		all = append(all, t.number)
	}
	return all
}

// Cpu is a thread's registers.
func (k *Kernel) Cpu(t int) (api.Cpu, api.Errno) {
	x := k.thread(t)
	if x == nil {
		return api.Cpu{}, api.ErrThread
	}
	c := api.Cpu{Regs: x.regs, Pc: x.pc}
	if v := k.guests.Of(t); v != none {
		for n := range c.Sys {
			c.Sys[n], _ = k.guests.Read(v, n)
		}
	}
	return c, api.OK
}

// State tells where a thread waits, and whether it is off.
func (k *Kernel) State(t int) (state, on int, off bool) {
	state, on = k.mail.State(t)
	x := k.thread(t)
	return state, on, x != nil && x.off
}

// Task tells what the scheduler knows of one.
func (k *Kernel) Task(t int) (api.Task, api.Errno) { return k.queue.Thread(t) }

// Vmid is a thread's space.
func (k *Kernel) Vmid(t int) int {
	x := k.thread(t)
	if x == nil {
		return noSpace
	}
	return x.vmid
}

// Node is a thread's root's node.
func (k *Kernel) Node(t int) int {
	x := k.thread(t)
	if x == nil {
		return 0
	}
	return x.node
}

// Load reads the memory.
func (k *Kernel) Load(addr, size int) (uint32, api.Errno) { return k.memory.Load(addr, size) }

// Frames is how many the memory has.
func (k *Kernel) Frames() int { return k.memory.Frames() }

// Slot reads a slot.
func (k *Kernel) Slot(at api.Ref) (api.Cap, api.Errno) { return k.slots.Get(at) }

// Full are all slots that are not empty.
func (k *Kernel) Full() []api.Ref { return k.slots.Full() }

// List is the derivation list.
func (k *Kernel) List() []api.Ref { return k.forest.List() }

// Depth is how deep a slot is in it.
func (k *Kernel) Depth(at api.Ref) int { return k.forest.Depth(at) }

// Mapped is what a slot's cap has mapped.
func (k *Kernel) Mapped(at api.Ref) (api.Mapping, bool) {
	m, ok := k.mapped[at]
	return m, ok
}

// Mappings are all of a space.
func (k *Kernel) Mappings(vmid int) []api.Mapping { return k.spaces.Mappings(vmid) }

// Tables are those in use.
func (k *Kernel) Tables() []int { return k.spaces.Tables() }

// Regions are all of untyped memory.
func (k *Kernel) Regions() []api.Region { return k.pool.Regions() }

// Stream is a stream's space.
func (k *Kernel) Stream(n int) int { return k.spaces.Space(n) }

// Virtual are a guest's virtual interrupts.
func (k *Kernel) Virtual(t int) []api.Lr {
	v := k.guests.Of(t)
	if v == none {
		return nil
	}
	return k.guests.Vgic(v).All()
}
