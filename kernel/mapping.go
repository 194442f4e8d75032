package kernel

import (
	"slices"

	"viceroy/api"
	"viceroy/pte"
)

// space is the one whose root the other cap says.
func (r *request) space() (int, api.Errno) {
	vmid := r.spaceOf(r.other.Obj)
	if vmid == noSpace {
		return noSpace, api.ErrSpace
	}
	return vmid, api.OK
}

// isMapped tells whether a page of a space has a frame.
func (k *Kernel) isMapped(vmid, page int) bool {
	return slices.ContainsFunc(k.spaces.Mappings(vmid), func(m api.Mapping) bool { return m.Page == page })
}

func (r *request) mapFrame() api.Errno {
	vmid, e := r.space()
	if e != api.OK {
		return e
	}
	m := api.Mapping{Vmid: vmid, Page: r.word(0), Frame: r.c.Obj, Rights: r.word(1) & r.c.Rights}
	old, has := r.mapped[r.at]
	again := has && old.Vmid == m.Vmid && old.Page == m.Page
	if !again && (has || r.isMapped(m.Vmid, m.Page)) {
		return api.ErrMapped
	}
	if e = r.spaces.Map(m.Vmid, m.Page, m.Frame, m.Rights); e != api.OK {
		return e
	}
	r.mapped[r.at] = m
	return api.OK
}

func (r *request) unmapFrame() api.Errno {
	if _, ok := r.mapped[r.at]; !ok {
		return api.ErrUnmapped
	}
	r.unmap(r.at)
	return api.OK
}

func (r *request) mapTable() api.Errno {
	vmid, e := r.space()
	if e != api.OK {
		return e
	}
	page := r.word(0)
	if e = r.spaces.MapTable(vmid, page, r.c.Obj); e != api.OK {
		return e
	}
	least := pte.Index(page, 0) * api.Entries
	r.mapped[r.at] = api.Mapping{Vmid: vmid, Page: least, Frame: r.c.Obj}
	return api.OK
}

func (r *request) unmapTable() api.Errno {
	if _, ok := r.mapped[r.at]; !ok {
		return api.ErrUnmapped
	}
	r.endTable(r.at, r.c)
	return api.OK
}

func (r *request) assign() api.Errno {
	vmid, e := r.spaces.Assign(r.c.Obj)
	if e != api.OK {
		return e
	}
	r.answer(uint32(vmid))
	return api.OK
}

func (r *request) attach() api.Errno {
	vmid, e := r.space()
	if e != api.OK {
		return e
	}
	return r.spaces.Attach(r.c.Obj, vmid)
}

func (r *request) detach() api.Errno { return r.spaces.Detach(r.c.Obj) }
