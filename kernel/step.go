package kernel

import (
	"viceroy/api"
	"viceroy/cpu"
)

// Where in a fault's third word its parts stand.
const (
	stageAt = 2
	levelAt = 4
	walkAt  = 5
)

// faultWords is how many a fault's message has.
const faultWords = 4

// step does the current thread's next instruction.
func (k *Kernel) step(e api.Event) (int, api.Errno) {
	t := k.thread(k.Current())
	if t == nil {
		return 0, api.ErrIdle
	}
	trap := k.execute(t, e.At)
	if trap.Cause == api.TrapNone {
		return 0, api.OK
	}
	if k.guests.Of(t.number) == none {
		switch trap.Cause {
		case api.TrapSvc:
			return api.TrapSvc, k.syscall(t, trap.Num)
		case api.TrapWfi:
			t.goOn()
			return api.TrapWfi, k.queue.Yield()
		}
	}
	k.fault(t, trap)
	return trap.Cause, api.ErrFault
}

// execute lets the machine do an instruction of a thread, a guest's with its virtual processor.
func (k *Kernel) execute(t *thread, at int) api.Trap {
	m := cpu.Machine{R: k.memory, T: k.buffer}
	c := api.Cpu{Regs: t.regs, Pc: t.pc}
	v := k.guests.Of(t.number)
	if v != none {
		k.guests.Enter(v)
		m.V, c.Sys = k.guests.Vgic(v), k.guests.Bank()
	}
	c, trap := cpu.Step(m, c, t.vmid, k.spaces.Root(t.vmid), at)
	t.regs, t.pc = c.Regs, c.Pc
	if v != none {
		k.guests.SetBank(c.Sys)
	}
	return trap
}

// fault tells a thread's trap to its handler, and lets the thread wait for the answer; who has no handler is off.
func (k *Kernel) fault(t *thread, trap api.Trap) {
	c, _, e := k.find(t, t.handler)
	if e != api.OK || c.Kind != api.Endpoint || !has(c, api.Write|api.Grant) {
		t.off = true
		k.queue.Stop(t.number)
		return
	}
	t.faulted = true
	m := api.Message{Label: trap.Cause, Badge: c.Badge, Many: faultWords, Words: words(trap)}
	to, _ := k.mail.Send(c.Obj, t.number, m, true, true)
	if r := k.thread(to); r != nil {
		k.deliver(r)
		k.wake(r)
	}
	k.rest(t)
}

// words are those that tell a trap.
func words(trap api.Trap) [api.MaxMessage]uint32 {
	f := trap.Fault
	kind := f.Kind | f.Stage<<stageAt | f.Level<<levelAt
	if f.Walk {
		kind |= 1 << walkAt
	}
	return [api.MaxMessage]uint32{uint32(trap.Num), uint32(trap.Addr), uint32(kind), uint32(f.Page)}
}

// has tells whether a cap has all of some rights.
func has(c api.Cap, rights int) bool { return c.Rights&rights == rights }
