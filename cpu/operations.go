package cpu

import "viceroy/api"

const (
	wordBits = 32
	// mostMask keeps no virtual interrupt from being heard: a mask is at most that.
	mostMask = 256
	// The last system registers that a guest may read, and write.
	lastRead    = api.SysId
	lastWritten = api.SysCount
)

// operation is what one does; guests tells that it is nothing to a thread that is no guest.
type operation struct {
	guests bool
	does   func(*work) api.Trap
}

// operations is the list of all, each in the place of its number; in the place 0 is none.
func operations() []operation {
	return []operation{
		api.OpMovi: {does: smooth((*work).take)},
		api.OpAdd:  {does: compute(func(b, c uint32) uint32 { return b + c })},
		api.OpSub:  {does: compute(func(b, c uint32) uint32 { return b - c })},
		api.OpAnd:  {does: compute(func(b, c uint32) uint32 { return b & c })},
		api.OpXor:  {does: compute(func(b, c uint32) uint32 { return b ^ c })},
		api.OpShl:  {does: compute(func(b, c uint32) uint32 { return b << (c % wordBits) })},
		api.OpLdr:  {does: load(wordBytes)},
		api.OpStr:  {does: store(wordBytes)},
		api.OpLdrb: {does: load(oneByte)},
		api.OpStrb: {does: store(oneByte)},
		api.OpBeq:  {does: branch(func(a, b uint32) bool { return a == b })},
		api.OpBne:  {does: branch(func(a, b uint32) bool { return a != b })},
		api.OpBlt:  {does: branch(func(a, b uint32) bool { return a < b })},
		api.OpJmp:  {does: smooth((*work).jump)},
		api.OpJal:  {does: smooth((*work).link)},
		api.OpJr:   {does: smooth((*work).turn)},
		api.OpHvc:  {guests: true, does: call(api.TrapHvc)},
		api.OpSvc:  {does: call(api.TrapSvc)},
		api.OpMrs:  {guests: true, does: (*work).readSystem},
		api.OpMsr:  {guests: true, does: (*work).writeSystem},
		api.OpWfi:  {does: (*work).wait},
		api.OpIar:  {guests: true, does: smooth((*work).acknowledge)},
		api.OpEoi:  {guests: true, does: (*work).end},
		api.OpTlbi: {guests: true, does: smooth((*work).forget)},
		api.OpNop:  {does: smooth((*work).nothing)},
	}
}

// smooth makes an operation of what never traps.
func smooth(act func(*work)) func(*work) api.Trap {
	return func(x *work) api.Trap {
		act(x)
		return api.Trap{}
	}
}

// compute makes one that tells A of B and C.
func compute(of func(b, c uint32) uint32) func(*work) api.Trap {
	return smooth(func(x *work) { x.setA(of(x.b(), x.after.Regs[x.i.C])) })
}

// branch makes one that goes elsewhere, if A and B are as they should be for it.
func branch(goes func(a, b uint32) bool) func(*work) api.Trap {
	return smooth(func(x *work) {
		if goes(x.a(), x.b()) {
			x.jump()
		}
	})
}

// call makes one that does nothing but trap.
func call(cause int) func(*work) api.Trap {
	return func(x *work) api.Trap { return x.trap(cause, x.i.Imm) }
}

// load makes one that reads so many bytes.
func load(size int) func(*work) api.Trap {
	return func(x *work) api.Trap {
		place, trap := x.data(size, api.Read, api.TrapLoad)
		if trap.Cause != api.TrapNone {
			return trap
		}
		w, _ := x.m.R.Load(place, size)
		x.setA(w)
		return api.Trap{}
	}
}

// store makes one that writes so many.
func store(size int) func(*work) api.Trap {
	return func(x *work) api.Trap {
		place, trap := x.data(size, api.Write, api.TrapStore)
		if trap.Cause != api.TrapNone {
			return trap
		}
		x.m.R.Store(place, size, x.a())
		return api.Trap{}
	}
}

// data finds where in the memory what is read or written lies; cause is why not, if it is not found.
func (x *work) data(size, want, cause int) (int, api.Trap) {
	address := int(x.b()+uint32(x.i.Imm)) & addressMask
	if address%size != 0 {
		return 0, api.Trap{Cause: api.TrapAlign, Addr: address}
	}
	place, f := x.reach(address, want)
	if f.Kind != api.FaultNone {
		return 0, api.Trap{Cause: cause, Addr: address, Fault: f}
	}
	return place, api.Trap{}
}

func (x *work) a() uint32 { return x.after.Regs[x.i.A] }

func (x *work) b() uint32 { return x.after.Regs[x.i.B] }

func (x *work) setA(w uint32) { x.after.Regs[x.i.A] = w }

func (x *work) take() { x.setA(uint32(x.i.Imm)) }

func (x *work) jump() { x.after.Pc = x.i.Imm }

// link is a jump that a jr of A comes back from.
func (x *work) link() {
	x.setA(uint32(x.behind()))
	x.jump()
}

// turn goes where a register says; whether an instruction can stand there is asked by the next step.
func (x *work) turn() { x.after.Pc = int(x.b()) & addressMask }

func (x *work) nothing() {}

func (x *work) readSystem() api.Trap {
	if x.i.Imm > lastRead {
		return x.trap(api.TrapSys, x.i.Imm)
	}
	x.setA(x.after.Sys[x.i.Imm])
	return api.Trap{}
}

func (x *work) writeSystem() api.Trap {
	if x.i.Imm > lastWritten {
		return x.trap(api.TrapSys, x.i.Imm)
	}
	x.after.Sys[x.i.Imm] = x.b()
	if x.i.Imm == api.SysMask {
		x.m.V.SetMask(int(min(x.b(), mostMask)))
	}
	return api.Trap{}
}

// wait goes on where there is something to hear. It is a thread's too, which never hears anything.
func (x *work) wait() api.Trap {
	if x.m.V != nil {
		if _, ok := x.m.V.Next(); ok {
			return api.Trap{}
		}
	}
	return x.trap(api.TrapWfi, 0)
}

func (x *work) acknowledge() { x.setA(uint32(x.m.V.Ack())) }

// end is the one operation that has gone through and traps all the same: the end of a level-flagged one is to be told.
func (x *work) end() api.Trap {
	maintenance, _ := x.m.V.End(int(min(x.b(), api.Virtuals)))
	if maintenance {
		return x.trap(api.TrapMaint, int(x.b()))
	}
	return api.Trap{}
}

func (x *work) forget() { x.m.T.FlushAsid(x.space.Vmid, x.space.Asid) }
