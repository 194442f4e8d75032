package confine

import (
	"slices"

	"viceroy/api"
	"viceroy/caps"
)

// none is a thread that is not there, and where somebody waits who waits nowhere.
const none = -1

// set is what is looked for again and again.
type set[T comparable] map[T]struct{}

func (s set[T]) add(all ...T) {
	for _, x := range all {
		s[x] = struct{}{}
	}
}

func (s set[T]) has(x T) bool {
	_, ok := s[x]
	return ok
}

// scene is what the rules are asked of: what was seen, and the programs of the boot.
type scene struct {
	api.View
	programs []program
}

// rules are all, the first one first. Each is asked only where those ahead of it hold.
func rules() []func(*scene) bool {
	return []func(*scene) bool{
		(*scene).slotsAreRight,
		(*scene).nodesRise,
		(*scene).objectsAreApart,
		(*scene).capsAreDerived,
		(*scene).mappedIsThere,
		(*scene).pagesAreOwned,
		(*scene).pagesAreMemory,
		(*scene).threadsAreRight,
	}
}

// Check tells the first rule that does not hold; 0: all do.
func Check(b api.Boot, v api.View) int {
	s := &scene{View: v, programs: programs(b)}
	for i, holds := range rules() {
		if !holds(s) {
			return i + 1
		}
	}
	return 0
}

// slotsAreRight: each slot stands once, with a cap, at a depth that a forest's list can have.
func (s *scene) slotsAreRight() bool {
	names := set[api.Ref]{}
	deepest := 0
	for _, p := range s.Slots {
		if names.has(p.At) || !caps.Right(p.Cap) || p.Cap.Kind == api.Null {
			return false
		}
		if p.Depth < 0 || p.Depth > deepest {
			return false
		}
		names.add(p.At)
		deepest = p.Depth + 1
	}
	return true
}

// nodesRise: so no node is in itself.
func (s *scene) nodesRise() bool {
	return !slices.ContainsFunc(s.Slots, func(p api.Place) bool {
		return p.Cap.Kind == api.CNode && p.At.Node >= p.Cap.Obj
	})
}

// objectsAreApart: no frame is two things.
func (s *scene) objectsAreApart() bool {
	first := map[int]api.Cap{}
	for _, p := range s.Slots {
		if !isThing(p.Cap.Kind) {
			continue
		}
		c, ok := first[p.Cap.Obj]
		if ok && !caps.Same(c, p.Cap) {
			return false
		}
		first[p.Cap.Obj] = p.Cap
	}
	return true
}

// isThing tells whether a cap of a kind is of one frame, which is nothing else.
func isThing(kind int) bool {
	switch kind {
	case api.CNode, api.Tcb, api.Endpoint, api.Note, api.Frame, api.Table, api.Vcpu:
		return true
	}
	return false
}

// isObject tells whether it is of a frame that nobody may reach.
func isObject(kind int) bool { return isThing(kind) && kind != api.Frame }

// capsAreDerived: a cap is a copy of its parent's, or made of its memory.
func (s *scene) capsAreDerived() bool {
	// The slots ahead that may be parents: each one is deeper than the one that stands before it here.
	var ahead []api.Place
slots:
	for _, p := range s.Slots {
		for n := len(ahead) - 1; n >= 0; n-- {
			parent := ahead[n]
			if parent.Depth >= p.Depth {
				continue
			}
			if !mayDerive(parent.Cap, p.Cap) {
				return false
			}
			ahead = append(ahead[:n+1], p)
			continue slots
		}
		ahead = append(ahead[:0], p)
	}
	return true
}

func mayDerive(parent, c api.Cap) bool {
	return parent.Kind == api.Untyped || caps.Same(parent, c)
}

// page is one of a space.
type page struct{ vmid, number int }

// mappedIsThere: what slots have mapped is mapped, each page by one slot.
func (s *scene) mappedIsThere() bool {
	maps, tables, pages := set[api.Mapping]{}, set[int]{}, set[page]{}
	maps.add(s.Maps...)
	tables.add(s.Tables...)
	for _, p := range s.Slots {
		at := page{p.M.Vmid, p.M.Page}
		switch {
		case !p.Mapped:
			if p.M != (api.Mapping{}) {
				return false
			}
		case p.Cap.Kind == api.Frame:
			if !isFrameMapped(p) || !maps.has(p.M) || pages.has(at) {
				return false
			}
			pages.add(at)
		case p.Cap.Kind == api.Table:
			if !isTableMapped(p) || !tables.has(p.Cap.Obj) {
				return false
			}
		default:
			return false
		}
	}
	return true
}

// isFrameMapped tells whether a slot with a frame's cap may have mapped what it has.
func isFrameMapped(p api.Place) bool {
	return p.M.Frame == p.Cap.Obj && p.M.Rights&^p.Cap.Rights == 0
}

// isTableMapped tells so of a table's: what is mapped begins where a table's pages do.
func isTableMapped(p api.Place) bool {
	return p.M.Frame == p.Cap.Obj && p.M.Rights == 0 && p.M.Page%api.Entries == 0
}

// pagesAreOwned: each page is mapped by a slot, or was there from the beginning.
func (s *scene) pagesAreOwned() bool {
	// Without a boot nobody knows what was there; each descriptor that may be has a program.
	if len(s.programs) == 0 {
		return true
	}
	owned := set[api.Mapping]{}
	for _, p := range s.Slots {
		if p.Mapped && p.Cap.Kind == api.Frame {
			owned.add(p.M)
		}
	}
	for _, p := range s.programs {
		owned.add(p.pages()...)
	}
	return !slices.ContainsFunc(s.Maps, func(m api.Mapping) bool { return !owned.has(m) })
}

// pagesAreMemory: no page is a table, an object, or memory that is still to be given away.
func (s *scene) pagesAreMemory() bool {
	taken := set[int]{}
	taken.add(s.Tables...)
	for _, p := range s.Slots {
		if isObject(p.Cap.Kind) {
			taken.add(p.Cap.Obj)
		}
	}
	for _, p := range s.programs {
		taken.add(p.objects()...)
	}
	return !slices.ContainsFunc(s.Maps, func(m api.Mapping) bool {
		return taken.has(m.Frame) || s.isLeft(m.Frame)
	})
}

// isLeft tells whether a frame is still to be given away.
func (s *scene) isLeft(frame int) bool {
	return slices.ContainsFunc(s.Regions, func(g api.Region) bool {
		if frame < g.First {
			return false
		}
		// How far it lies behind the first one has no sign, so that nothing wraps round.
		far := uint64(frame) - uint64(g.First)
		return far < uint64(max(g.Frames, 0)) && far >= uint64(max(g.Mark, 0))
	})
}

// threadsAreRight: who can run is awake, and each other one waits for what there is.
func (s *scene) threadsAreRight() bool {
	all, awake := set[int]{}, set[int]{}
	for _, t := range s.Threads {
		if all.has(t.Id) || t.Awake != (t.State == api.Inactive && !t.Off) {
			return false
		}
		all.add(t.Id)
		if t.Awake {
			awake.add(t.Id)
		}
	}
	return (s.Current == none || awake.has(s.Current)) && s.waitsAreRight(all)
}

// waitsAreRight tells whether all threads wait where they can.
func (s *scene) waitsAreRight(threads set[int]) bool {
	endpoints, notes := s.objectsOf(api.Endpoint), s.objectsOf(api.Note)
	return !slices.ContainsFunc(s.Threads, func(t api.Seen) bool {
		switch t.State {
		case api.Inactive:
			return t.On != none
		case api.BlockedSend, api.BlockedRecv:
			return !endpoints.has(t.On)
		case api.BlockedReply:
			return t.On != none && !threads.has(t.On)
		case api.BlockedNote:
			return !notes.has(t.On)
		}
		return true
	})
}

// objectsOf are all of a kind that there is a cap of.
func (s *scene) objectsOf(kind int) set[int] {
	all := set[int]{}
	for _, p := range s.Slots {
		if p.Cap.Kind == kind {
			all.add(p.Cap.Obj)
		}
	}
	return all
}
