package kernel

import (
	"viceroy/api"
	"viceroy/caps"
)

// The rights of what is made.
const (
	endpointRights = api.Read | api.Write | api.Grant
	noteRights     = api.Read | api.Write
	frameRights    = api.Read | api.Write | api.Exec
)

// slot is one of the node that the cap is of.
func (r *request) slot(index int) (api.Ref, api.Errno) {
	if index >= nodeSlots {
		return api.Ref{}, api.ErrArg
	}
	return api.Ref{Node: r.c.Obj, Index: index}, api.OK
}

// mayLay tells whether a cap may be laid into a slot.
func (r *request) mayLay(at api.Ref, c api.Cap) api.Errno {
	if !r.isEmpty(at) {
		return api.ErrFull
	}
	if !fits(at, c) {
		return api.ErrDerive
	}
	return api.OK
}

func (r *request) copyCap() api.Errno {
	at, e := r.slot(r.word(0))
	if e != api.OK {
		return e
	}
	if !r.isEmpty(at) {
		return api.ErrFull
	}
	d, e := caps.Derive(r.other)
	if e != api.OK {
		return e
	}
	if !fits(at, d) {
		return api.ErrDerive
	}
	r.lay(at, caps.Mask(d, r.word(1)), r.otherAt)
	return api.OK
}

func (r *request) mint() api.Errno {
	at, e := r.slot(r.word(0))
	if e != api.OK {
		return e
	}
	d, e := caps.Mint(r.other, r.word(1), r.word(2), r.other.Guard, r.other.GuardBits)
	if e != api.OK {
		return e
	}
	if e = r.mayLay(at, d); e != api.OK {
		return e
	}
	r.lay(at, d, r.otherAt)
	return api.OK
}

func (r *request) move() api.Errno {
	at, e := r.slot(r.word(0))
	if e != api.OK {
		return e
	}
	if e = r.mayLay(at, r.other); e != api.OK {
		return e
	}
	r.slots.Put(at, r.other)
	r.slots.Put(r.otherAt, api.Cap{})
	if m, ok := r.mapped[r.otherAt]; ok {
		r.mapped[at] = m
		delete(r.mapped, r.otherAt)
	}
	return r.forest.Move(r.otherAt, at)
}

func (r *request) remove() api.Errno {
	at, e := r.slot(r.word(0))
	if e != api.OK {
		return e
	}
	return r.empty(at)
}

func (r *request) revoke() api.Errno {
	at, e := r.slot(r.word(0))
	if e != api.OK {
		return e
	}
	for child, ok := r.forest.First(at); ok; child, ok = r.forest.First(at) {
		if e = r.empty(child); e != api.OK {
			return e
		}
	}
	return api.OK
}

// made is the cap of a new thing; false, if things of the kind cannot be made.
func made(kind, obj int) (api.Cap, bool) {
	c := api.Cap{Kind: kind, Obj: obj}
	switch kind {
	case api.Untyped, api.Table:
	case api.CNode:
		c = nodeCap(obj)
	case api.Endpoint:
		c.Rights = endpointRights
	case api.Note:
		c.Rights = noteRights
	case api.Frame:
		c.Rights = frameRights
	default:
		return api.Cap{}, false
	}
	return c, true
}

// things are so many of a kind and a size: where the first one is laid, and in which frames it lies.
type things struct {
	kind, size, count int
	slot              api.Ref
	obj               int
}

// each tells the slot and the cap of one of them.
func (x things) each(n int) (api.Ref, api.Cap) {
	c, _ := made(x.kind, x.obj+n*x.size)
	return api.Ref{Node: x.slot.Node, Index: x.slot.Index + n}, c
}

func (r *request) retype() api.Errno {
	x := things{kind: r.word(0), size: r.word(1), count: r.word(3), slot: api.Ref{Node: r.other.Obj, Index: r.word(2)}}
	if e := r.wanted(x); e != api.OK {
		return e
	}
	if e := r.reset(); e != api.OK {
		return e
	}
	var e api.Errno
	x.obj, e = r.pool.Room(r.c.Obj, x.kind, x.size, x.count)
	if e != api.OK {
		return e
	}
	if e = r.layable(x); e != api.OK {
		return e
	}
	r.pool.Carve(r.c.Obj, x.kind, x.size, x.count)
	for n := range x.count {
		r.create(x, n)
	}
	return api.OK
}

// wanted tells whether such things may be asked for, and their slots are empty.
func (r *request) wanted(x things) api.Errno {
	if _, ok := made(x.kind, 0); !ok {
		return api.ErrKind
	}
	if x.slot.Index >= nodeSlots || !within(x.count, 1, nodeSlots-x.slot.Index) {
		return api.ErrArg
	}
	for n := range x.count {
		if at, _ := x.each(n); !r.isEmpty(at) {
			return api.ErrFull
		}
	}
	return api.OK
}

// reset takes back what was given of the memory, if nothing of it is used any more, as far as units go.
func (r *request) reset() api.Errno {
	if _, used := r.forest.First(r.at); used {
		return api.OK
	}
	left := api.UnitsAnEvent - r.units
	e := r.pool.Reset(r.memory, r.c.Obj, &left)
	r.units = api.UnitsAnEvent - left
	return e
}

// layable tells whether new things may be laid where they are wanted. A region is known by its first frame: a piece that lay at its region's own could not be told from it, and is refused ahead of its being given.
func (r *request) layable(x things) api.Errno {
	at, c := x.each(0)
	if !fits(at, c) {
		return api.ErrDerive
	}
	for n := range x.count {
		_, c = x.each(n)
		if _, e := r.pool.Get(c.Obj); x.kind == api.Untyped && e == api.OK {
			return api.ErrFull
		}
	}
	return api.OK
}

// create makes one of the things, of the memory that was given for them.
func (r *request) create(x things, n int) {
	at, c := x.each(n)
	switch c.Kind {
	case api.CNode:
		r.slots.AddNode(c.Obj, nodeRadix)
	case api.Untyped:
		r.pool.Add(api.Region{First: c.Obj, Frames: x.size})
	}
	r.lay(at, c, r.at)
}
