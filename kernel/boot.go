package kernel

import (
	"slices"

	"viceroy/api"
	"viceroy/caps"
	"viceroy/cdt"
	"viceroy/cspace"
	"viceroy/gic"
	"viceroy/iommu"
	"viceroy/ipc"
	"viceroy/ram"
	"viceroy/sched"
	"viceroy/space"
	"viceroy/tlb"
	"viceroy/untyped"
	"viceroy/vcpu"
)

// What a descriptor may have.
const (
	leastFrames  = 8
	maxEndpoints = 16
	maxNotes     = 16
	maxProgs     = 8
	maxPieces    = 8
	maxData      = 4
	maxCode      = 16
	maxShares    = nodeSlots - firstShared
)

const (
	// firstThing is the frame of the first thing: the frame 0 is nobody's.
	firstThing = 1
	// firstShared is the slot of a program's first share.
	firstShared = 1
	// noObject is what a share names that is not there: no right cap has it.
	noObject = -1
	// The pages of a program's code, and of its first frame of data.
	codePage = 0
	dataPage = 1
	// wordBytes is what a word of code has.
	wordBytes = 4
)

// Check tells whether a descriptor may be.
func Check(b api.Boot) api.Errno {
	// Where things lie is asked of bounded numbers alone: sums of any ints could wrap round.
	if !isBounded(b) || slices.ContainsFunc(b.Progs, isUnbounded) {
		return api.ErrBoot
	}
	l := layOut(b)
	if l.next > b.Frames || !l.mayShare(b.Progs) {
		return api.ErrBoot
	}
	return api.OK
}

// isBounded tells whether the descriptor's own numbers, and its lists, may be.
func isBounded(b api.Boot) bool {
	_, e := sched.New(b.Table...)
	return e == api.OK &&
		within(b.Frames, leastFrames, api.MaxFrames) &&
		within(b.Lrs, 1, api.MaxLrs) &&
		within(b.Endpoints, 0, maxEndpoints) &&
		within(b.Notes, 0, maxNotes) &&
		within(len(b.Progs), 1, maxProgs) &&
		len(b.Pieces) <= maxPieces &&
		!slices.ContainsFunc(b.Pieces, isNoPiece)
}

// isNoPiece asks the layer that gives memory away: a piece is as great as an Untyped may be.
func isNoPiece(frames int) bool {
	_, e := untyped.Size(api.Untyped, frames)
	return e != api.OK
}

func isUnbounded(p api.Prog) bool {
	return !within(p.Priority, 0, api.Priorities-1) ||
		!within(p.Domain, 0, api.Domains-1) ||
		!within(p.Handler, 0, addressMask) ||
		!within(p.Data, 0, maxData) ||
		len(p.Code) > maxCode ||
		len(p.Shares) > maxShares
}

// place is in which frames a program's things lie; vcpu is noObject, if it is no guest.
type place struct {
	tcb, node, root, table, code int
	data                         []int
	vcpu                         int
}

// layout is where all things lie, program by program, and once more by their kinds, as shares name them.
type layout struct {
	progs  []place
	things [api.Reply + 1][]int
	next   int
}

// take gives the next so many frames to a thing, which lies at a multiple of its size.
func (l *layout) take(frames int) int {
	at := (l.next + frames - 1) / frames * frames
	l.next = at + frames
	return at
}

// takeFor does so for a thing that can be shared.
func (l *layout) takeFor(kind, frames int) int {
	at := l.take(frames)
	l.things[kind] = append(l.things[kind], at)
	return at
}

// layOut tells where a descriptor's things lie, whether or not there are so many frames.
func layOut(b api.Boot) *layout {
	l := &layout{next: firstThing}
	for _, p := range b.Progs {
		l.progs = append(l.progs, l.program(p))
	}
	for range b.Endpoints {
		l.takeFor(api.Endpoint, 1)
	}
	for range b.Notes {
		l.takeFor(api.Note, 1)
	}
	for _, frames := range b.Pieces {
		l.takeFor(api.Untyped, frames)
	}
	// Streams and lines lie nowhere: a share says their number itself.
	for n := range api.Streams {
		l.things[api.Stream] = append(l.things[api.Stream], n)
	}
	for n := range sharedLines {
		l.things[api.Irq] = append(l.things[api.Irq], n)
	}
	return l
}

func (l *layout) program(p api.Prog) place {
	x := place{
		tcb:   l.takeFor(api.Tcb, 1),
		node:  l.takeFor(api.CNode, 1),
		root:  l.takeFor(api.Table, 1),
		table: l.take(1),
		code:  l.take(1),
		vcpu:  noObject,
	}
	for range p.Data {
		x.data = append(x.data, l.takeFor(api.Frame, 1))
	}
	if p.Guest {
		x.vcpu = l.take(1)
	}
	// A share says the number of the program: each has a place here, also one that is no guest.
	l.things[api.Vcpu] = append(l.things[api.Vcpu], x.vcpu)
	return x
}

// shared is the cap of a share of a program, right or not.
func (l *layout) shared(program int, s api.Share) api.Cap {
	c := api.Cap{Kind: s.Kind, Obj: noObject, Rights: s.Rights, Badge: s.Badge}
	if s.Kind == api.CNode {
		c.Radix, c.GuardBits = nodeRadix, nodeGuardBits
		// No node is in one of a number as great as its own, so that none is in itself.
		if s.N <= program {
			return c
		}
	}
	if within(s.Kind, 0, len(l.things)-1) && within(s.N, 0, len(l.things[s.Kind])-1) {
		c.Obj = l.things[s.Kind][s.N]
	}
	return c
}

// isSingle tells whether there may be one share of a thing at most: of what cannot be copied, and of lines.
func isSingle(kind int) bool {
	return kind == api.Untyped || kind == api.Stream || kind == api.Irq || kind == api.Table
}

// mayShare tells whether all shares may be.
func (l *layout) mayShare(progs []api.Prog) bool {
	var ahead []api.Cap
	for i, p := range progs {
		for _, s := range p.Shares {
			c := l.shared(i, s)
			isIt := func(other api.Cap) bool { return caps.Same(c, other) }
			if !caps.Right(c) || isSingle(s.Kind) && slices.ContainsFunc(ahead, isIt) {
				return false
			}
			ahead = append(ahead, c)
		}
	}
	return true
}

// New makes one.
func New(b api.Boot) (*Kernel, api.Errno) {
	if e := Check(b); e != api.OK {
		return nil, e
	}
	l := layOut(b)
	k := machine(b)
	for i, p := range b.Progs {
		k.addProgram(l.progs[i], p)
	}
	for i, frames := range b.Pieces {
		k.pool.Add(api.Region{First: l.things[api.Untyped][i], Frames: frames})
	}
	for i, p := range b.Progs {
		k.addShares(l, i, p.Shares)
	}
	k.queue.Settle()
	return k, api.OK
}

// machine makes what there is without programs; the descriptor may be.
func machine(b api.Boot) *Kernel {
	k := &Kernel{
		buffer:  tlb.New(),
		devices: iommu.New(),
		lines:   gic.New(),
		slots:   cspace.New(),
		forest:  cdt.New(),
		pool:    untyped.New(),
		mail:    ipc.New(),
		mapped:  map[api.Ref]api.Mapping{},
	}
	k.memory, _ = ram.New(b.Frames)
	k.queue, _ = sched.New(b.Table...)
	k.guests, _ = vcpu.New(b.Lrs)
	k.spaces = space.New(k.memory, k.buffer, k.devices)
	k.slots.AddNode(lineNode, nodeRadix)
	return k
}

func (k *Kernel) addProgram(x place, p api.Prog) {
	k.slots.AddNode(x.node, nodeRadix)
	vmid, _ := k.spaces.Assign(x.root)
	k.spaces.MapTable(vmid, codePage, x.table)
	k.spaces.Map(vmid, codePage, x.code, api.Read|api.Exec)
	for i, frame := range x.data {
		k.spaces.Map(vmid, dataPage+i, frame, api.Read|api.Write)
	}
	for i, w := range p.Code {
		k.memory.Store(x.code*api.FrameBytes+i*wordBytes, wordBytes, w)
	}
	k.threads = append(k.threads, &thread{number: x.tcb, vmid: vmid, node: x.node, handler: uint32(p.Handler)})
	k.queue.Add(x.tcb, p.Priority, p.Domain)
	k.queue.Wake(x.tcb)
	if p.Guest {
		k.guests.Add(x.vcpu)
		k.guests.Bind(x.vcpu, x.tcb)
	}
}

// addShares lays a program's shares into its node. Nodes' numbers rise from program to program: of all slots with a thing's caps the least one has the first share.
func (k *Kernel) addShares(l *layout, program int, shares []api.Share) {
	for i, s := range shares {
		c := l.shared(program, s)
		at := api.Ref{Node: l.progs[program].node, Index: firstShared + i}
		if first, ok := k.other(at, c); ok {
			k.lay(at, c, first)
			continue
		}
		k.slots.Put(at, c)
		k.forest.Add(at)
	}
}

// other is the least slot but one that has a cap of an object; false, if there is none.
func (k *Kernel) other(but api.Ref, c api.Cap) (api.Ref, bool) {
	for _, at := range k.slots.Full() {
		if at != but && caps.Same(c, k.held(at)) {
			return at, true
		}
	}
	return api.Ref{}, false
}
