package confine

import (
	"viceroy/api"
	"viceroy/kernel"
)

// Where a program's things lie, a frame each, from its first one on. Behind its data a guest has its virtual processor.
const (
	tcbAt = iota
	nodeAt
	_ // its root
	_ // its table
	codeAt
	dataAt
)

const (
	// firstThing is the frame of the first program's first thing.
	firstThing = 1
	// firstVmid is the space of the first program; the others' follow.
	firstVmid = 1
	// The pages of a program's code, and of its first frame of data.
	codePage = 0
	dataPage = 1
)

// program is one of the boot's: its space, its first frame, how many frames of data it has, whether it is a guest.
type program struct {
	vmid, first, data int
	guest             bool
}

// programs tells where those of a descriptor lie; none, if it may not be.
func programs(b api.Boot) []program {
	if kernel.Check(b) != api.OK {
		return nil
	}
	var all []program
	next := firstThing
	for i, x := range b.Progs {
		p := program{vmid: firstVmid + i, first: next, data: x.Data, guest: x.Guest}
		all = append(all, p)
		next = p.end()
	}
	return all
}

// behindData is the frame behind its data: of a guest its virtual processor's.
func (p program) behindData() int { return p.first + dataAt + p.data }

// end is the frame behind its things.
func (p program) end() int {
	if p.guest {
		return p.behindData() + 1
	}
	return p.behindData()
}

// objects are the frames in which it has what nobody may reach, whether or not there is a cap of it.
func (p program) objects() []int {
	all := []int{p.first + tcbAt, p.first + nodeAt}
	if p.guest {
		all = append(all, p.behindData())
	}
	return all
}

// pages are those that it has from the beginning, by no slot.
func (p program) pages() []api.Mapping {
	all := []api.Mapping{{Vmid: p.vmid, Page: codePage, Frame: p.first + codeAt, Rights: api.Read | api.Exec}}
	for n := range p.data {
		all = append(all, api.Mapping{Vmid: p.vmid, Page: dataPage + n, Frame: p.first + dataAt + n, Rights: api.Read | api.Write})
	}
	return all
}
