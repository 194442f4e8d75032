package kernel

import (
	"viceroy/api"
	"viceroy/caps"
)

// What a thread's registers are for, where it asks and is told.
const (
	addressRegister = 0  // the cap that is asked; the badge that is told
	infoRegister    = 1  // label and length
	wordRegister    = 2  // the first word
	sendRegister    = 6  // the cap that is brought, or asked too; whether one was brought
	placeRegister   = 7  // the slot that it is brought to
	errorRegister   = 15 // what a syscall told
)

// The parts of what stands in the infoRegister.
const (
	labelAt   = 4
	labelMask = 1<<20 - 1
	manyMask  = 1<<labelAt - 1
)

// maxDepth is how many bits an address of a slot has.
const maxDepth = 16

// thread is what computes. Where it waits, and whether it is awake, others know.
type thread struct {
	number, vmid, node int
	handler            uint32
	regs               [api.Registers]uint32
	pc                 int
	faulted, off       bool
	grants             bool // what it sends
}

// thread is the one of a number; nil, if there is none.
func (k *Kernel) thread(number int) *thread {
	for _, t := range k.threads {
		if t.number == number {
			return t
		}
	}
	return nil
}

// nodeCap is a cap of a whole node, such as a thread looks from, and such as is made.
func nodeCap(node int) api.Cap {
	return api.Cap{Kind: api.CNode, Obj: node, Radix: nodeRadix, GuardBits: nodeGuardBits}
}

// find looks for an address of a thread.
func (k *Kernel) find(t *thread, address uint32) (api.Cap, api.Ref, api.Errno) {
	return k.slots.Lookup(nodeCap(t.node), address)
}

// goOn lets a thread stand at its next instruction.
func (t *thread) goOn() { t.setPc(uint32(t.pc + wordBytes)) }

func (t *thread) setPc(w uint32) { t.pc = int(w & addressMask) }

func (t *thread) label() int { return int(t.regs[infoRegister] >> labelAt & labelMask) }

// many is how many words a thread sends.
func (t *thread) many() int { return min(int(t.regs[infoRegister]&manyMask), api.MaxMessage) }

// message is what a thread sends with a badge.
func (t *thread) message(badge int) api.Message {
	m := api.Message{Label: t.label(), Badge: badge, Many: t.many()}
	copy(m.Words[:m.Many], t.regs[wordRegister:])
	return m
}

// deliver tells a thread what came for it.
func (k *Kernel) deliver(t *thread) {
	m, _ := k.mail.Inbox(t.number)
	if t.faulted {
		t.takeAnswer(m)
		return
	}
	t.regs[addressRegister] = uint32(m.Badge)
	t.regs[infoRegister] = uint32(m.Label<<labelAt | m.Many)
	copy(t.regs[wordRegister:], m.Words[:m.Many])
}

// takeAnswer ends a fault: the answer says where, and whether, the thread goes on.
func (t *thread) takeAnswer(m api.Message) {
	t.faulted = false
	if m.Label != 0 {
		t.off = true
		return
	}
	if m.Many >= 1 {
		t.setPc(m.Words[0])
	}
	if m.Many >= 2 {
		t.regs[0] = m.Words[1]
	}
}

func (k *Kernel) waits(t *thread) bool {
	state, _ := k.mail.State(t.number)
	return state != api.Inactive
}

// wake lets a thread run, if it may.
func (k *Kernel) wake(t *thread) {
	if !k.waits(t) && !t.off {
		k.queue.Wake(t.number)
	}
}

// rest lets a thread sleep, if it waits.
func (k *Kernel) rest(t *thread) {
	if k.waits(t) {
		k.queue.Stop(t.number)
	}
}

// fits tells whether a slot may have a cap: a node's cap lies in nodes of lesser numbers alone, so that none is in itself.
func fits(at api.Ref, c api.Cap) bool { return c.Kind != api.CNode || at.Node < c.Obj }

// bring brings the cap that one thread sends to where the other one wants it.
func (k *Kernel) bring(from, to *thread) {
	if from.regs[sendRegister] == 0 || !from.grants {
		return
	}
	to.regs[sendRegister] = 0
	if k.carry(from, to) {
		to.regs[sendRegister] = 1
	}
}

// carry tells whether there was a cap to be brought, and a place for it.
func (k *Kernel) carry(from, to *thread) bool {
	c, at, e := k.find(from, from.regs[sendRegister])
	if e != api.OK {
		return false
	}
	place, e := k.slots.Slot(nodeCap(to.node), to.regs[placeRegister], maxDepth)
	if e != api.OK || !k.isEmpty(place) {
		return false
	}
	d, e := caps.Derive(c)
	if e != api.OK || !fits(place, d) {
		return false
	}
	k.lay(place, d, at)
	return true
}
