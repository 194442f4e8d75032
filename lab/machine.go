package lab

import (
	"strconv"

	"viceroy/api"
	"viceroy/confine"
)

const (
	// mostSteps is how many steps one line makes at most.
	mostSteps = 200
	wordBytes = 4
	// The registers' numbers: sixteen, the Pc, and the system registers.
	pcNumber     = api.Registers
	systemNumber = pcNumber + 1
	behindSystem = systemNumber + api.SysRegs
)

// asked is what does something with a machine: there must be one.
func asked(do action) action {
	return func(b *bench, o order) string {
		if b.machine == nil {
			return failure(api.ErrIdle)
		}
		return do(b, o)
	}
}

// happen lets an event come.
func (b *bench) happen(e api.Event) string { return answered(b.machine.Event(e)) }

// answered is how what an event answers is said.
func answered(n int, e api.Errno) string { return list(n, int(e)) }

func (b *bench) step(order) string { return b.happen(api.Event{Kind: api.EvStep}) }

func (b *bench) tick(order) string { return b.happen(api.Event{Kind: api.EvTick}) }

func (b *bench) raise(o order) string {
	return b.happen(api.Event{Kind: api.EvIrq, N: o.numbers[0]})
}

func (b *bench) evict(o order) string {
	return b.happen(api.Event{Kind: api.EvEvict, N: o.numbers[0]})
}

func (b *bench) read(o order) string {
	return b.happen(api.Event{Kind: api.EvDma, N: o.numbers[0], At: o.numbers[1]})
}

func (b *bench) write(o order) string {
	n := o.numbers
	return b.happen(api.Event{Kind: api.EvDma, N: n[0], At: n[1], Write: true, Value: uint32(n[2])})
}

func (b *bench) steps(o order) string {
	n, e := 0, api.OK
	for range min(o.numbers[0], mostSteps) {
		n, e = b.machine.Event(api.Event{Kind: api.EvStep})
		if e == api.ErrIdle {
			break
		}
	}
	return answered(n, e)
}

func (b *bench) who(order) string { return list(b.machine.Current()) }

func (b *bench) register(o order) string {
	c, e := b.machine.Cpu(o.numbers[0])
	if e != api.OK {
		return failure(e)
	}
	n := o.numbers[1]
	switch {
	case n < pcNumber:
		return unsigned(c.Regs[n])
	case n == pcNumber:
		return list(c.Pc)
	case n < behindSystem:
		return unsigned(c.Sys[n-systemNumber])
	}
	return failure(api.ErrArg)
}

// unsigned is how a word is said.
func unsigned(w uint32) string { return strconv.FormatUint(uint64(w), 10) }

func (b *bench) state(o order) string {
	state, on, off := b.machine.State(o.numbers[0])
	if off {
		return list(state, on) + blank + "off"
	}
	return list(state, on) + blank + "on"
}

func (b *bench) word(o order) string {
	w, e := b.machine.Load(o.numbers[0], wordBytes)
	if e != api.OK {
		return failure(e)
	}
	return unsigned(w)
}

func (b *bench) slot(o order) string {
	c, e := b.machine.Slot(api.Ref{Node: o.numbers[0], Index: o.numbers[1]})
	if e != api.OK {
		return failure(e)
	}
	return list(c.Kind, c.Obj, c.Rights, c.Badge)
}

// sum is of all words, each times its number: so words that have changed places are seen too.
func (b *bench) sum(order) string {
	var sum uint32
	for n := range b.machine.Frames() * api.FrameBytes / wordBytes {
		w, _ := b.machine.Load(n*wordBytes, wordBytes)
		sum += w * uint32(n+1)
	}
	return unsigned(sum)
}

func (b *bench) sound(order) string {
	return list(confine.Check(b.started, confine.See(b.machine)))
}
