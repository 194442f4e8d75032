package kernel

import (
	"slices"

	"viceroy/api"
	"viceroy/caps"
)

// sound asks what always holds, of what the kernel tells: empty, if it does.
func sound(b api.Boot, k *Kernel) string {
	for _, rule := range []func(api.Boot, *Kernel) string{soundSlots, soundMapped, soundMaps, soundThreads} {
		if s := rule(b, k); s != "" {
			return s
		}
	}
	return ""
}

// soundSlots: caps are right, lie in nodes of lesser numbers, have objects of their own, and were derived of the same object, or made of memory.
func soundSlots(_ api.Boot, k *Kernel) string {
	var ups []api.Cap
	list := k.List()
	full := k.Full()
	for i, at := range list {
		c, e := k.Slot(at)
		depth := k.Depth(at)
		if e != api.OK || !caps.Right(c) || c.Kind == api.Null || slices.Contains(list[:i], at) || !slices.Contains(full, at) {
			return "a cap is wrong"
		}
		if depth < 0 || depth > len(ups) {
			return "a depth is wrong"
		}
		ups = append(ups[:depth], c)
		if depth > 0 && !caps.Same(ups[depth-1], c) && ups[depth-1].Kind != api.Untyped {
			return "a parent is wrong"
		}
		if !fits(at, c) {
			return "a node is in a greater one"
		}
		for _, other := range list[:i] {
			o, _ := k.Slot(other)
			if o.Obj == c.Obj && o.Kind != c.Kind && isThing(o.Kind) && isThing(c.Kind) {
				return "a frame is two things"
			}
		}
	}
	if len(full) != len(list) {
		return "the forest has other slots"
	}
	return ""
}

func isThing(kind int) bool { return kind >= api.CNode && kind <= api.Vcpu }

// soundMapped: what slots have mapped is mapped, once each.
func soundMapped(_ api.Boot, k *Kernel) string {
	var pages []api.Mapping
	for _, at := range k.Full() {
		m, ok := k.Mapped(at)
		c, _ := k.Slot(at)
		switch {
		case !ok && m != api.Mapping{}:
			return "a slot that has mapped nothing has"
		case !ok:
		case m.Frame != c.Obj:
			return "a slot has mapped another frame"
		case c.Kind == api.Frame:
			again := func(x api.Mapping) bool { return x.Vmid == m.Vmid && x.Page == m.Page }
			if !slices.Contains(k.Mappings(m.Vmid), m) || m.Rights&^c.Rights != 0 || slices.ContainsFunc(pages, again) {
				return "a frame's slot has mapped what is not"
			}
			pages = append(pages, m)
		case c.Kind != api.Table || m.Rights != 0 || m.Page%32 != 0 || !slices.Contains(k.Tables(), c.Obj):
			return "a table's slot has mapped what is not"
		}
	}
	return ""
}

// soundMaps: each page is a slot's, or of the beginning, and its frame is nothing else.
func soundMaps(b api.Boot, k *Kernel) string {
	var own []api.Mapping
	l := layOut(b)
	for i, x := range l.progs {
		own = append(own, api.Mapping{Vmid: i + 1, Frame: x.code, Rights: 5})
		for n, frame := range x.data {
			own = append(own, api.Mapping{Vmid: i + 1, Page: 1 + n, Frame: frame, Rights: 3})
		}
	}
	for vmid := range api.Vmids {
		for _, m := range k.Mappings(vmid) {
			bySlot := slices.ContainsFunc(k.Full(), func(at api.Ref) bool {
				x, ok := k.Mapped(at)
				return ok && x == m && k.held(at).Kind == api.Frame
			})
			if !bySlot && !slices.Contains(own, m) {
				return "a page is nobody's"
			}
			if s := soundFrame(l, k, m.Frame); s != "" {
				return s
			}
		}
	}
	return ""
}

func soundFrame(l *layout, k *Kernel, frame int) string {
	if slices.Contains(k.Tables(), frame) {
		return "a page is a table"
	}
	for _, at := range k.Full() {
		if c := k.held(at); c.Obj == frame && isThing(c.Kind) && c.Kind != api.Frame {
			return "a page is an object"
		}
	}
	for _, x := range l.progs {
		if frame == x.tcb || frame == x.node || frame == x.vcpu {
			return "a page is a program's"
		}
	}
	for _, g := range k.Regions() {
		if frame >= g.First+g.Mark && frame < g.First+g.Frames {
			return "a page is still to be given"
		}
	}
	return ""
}

// soundThreads: who waits nowhere, and is not off, is awake; and each waits for what there is.
func soundThreads(_ api.Boot, k *Kernel) string {
	for _, t := range k.Threads() {
		state, on, off := k.State(t)
		task, _ := k.Task(t)
		if task.Awake != (state == api.Inactive && !off) || t == k.Current() && !task.Awake {
			return "a thread is not as awake as it should be"
		}
		there := func(kind int) bool {
			return slices.ContainsFunc(k.Full(), func(at api.Ref) bool { c := k.held(at); return c.Kind == kind && c.Obj == on })
		}
		switch state {
		case api.Inactive:
			if on != -1 {
				return "who waits nowhere is told to"
			}
		case api.BlockedSend, api.BlockedRecv:
			if !there(api.Endpoint) {
				return "an endpoint is gone"
			}
		case api.BlockedNote:
			if !there(api.Note) {
				return "a notification is gone"
			}
		case api.BlockedReply:
			if on != -1 && !slices.Contains(k.Threads(), on) {
				return "who should answer is gone"
			}
		default:
			return "there is no such state"
		}
	}
	return ""
}
