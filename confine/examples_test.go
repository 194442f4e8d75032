package confine

import (
	"testing"

	"viceroy/api"
)

// ridden is a machine of which is asked behind each event what always holds.
func ridden(t *testing.T, b api.Boot) *rider {
	t.Helper()
	return newRider(start(t, b), &dice{})
}

// next lets so many instructions be done, and fails, if the last one tells anything else.
func (r *rider) next(steps, cause int, e api.Errno) {
	r.t.Helper()
	var n int
	var err api.Errno
	for range steps {
		n, err = r.event(api.Event{Kind: api.EvStep})
	}
	if n != cause || err != e {
		r.t.Errorf("%d, %v, not %d, %v", n, err, cause, e)
	}
}

// registers fails, if a thread's from one on are others.
func (r *rider) registers(t, from int, want ...uint32) {
	r.t.Helper()
	c, _ := r.Cpu(t)
	for i, w := range want {
		if c.Regs[from+i] != w {
			r.t.Errorf("register %d of %d is %d, not %d", from+i, t, c.Regs[from+i], w)
		}
	}
}

// The ten examples of the whole: behind each event Check tells 0.

func TestWholeMessages(t *testing.T) {
	b := example()
	r := ridden(t, b)
	r.next(2, api.TrapSvc, api.OK)
	r.next(1, 0, api.ErrIdle)

	b.Progs = append(b.Progs, api.Prog{Priority: 4, Shares: []api.Share{{Kind: api.Endpoint, Rights: 2, Badge: 7}}, Code: code("movi r0, 1\nmovi r1, 1\nmovi r2, 42\nsvc 2")})
	r = ridden(t, b)
	r.next(6, api.TrapSvc, api.OK)
	r.registers(1, 0, 7, 1, 42)
}

// guarded is a descriptor of a thread that handles a guest's traps.
func guarded(handler, guest string) api.Boot {
	return api.Boot{Frames: 64, Lrs: 1, Endpoints: 1, Progs: []api.Prog{
		{Priority: 6, Shares: []api.Share{{Kind: api.Endpoint, Rights: 1}, {Kind: api.Vcpu, N: 1}}, Code: code(handler)},
		{Priority: 5, Guest: true, Handler: 1, Shares: []api.Share{{Kind: api.Endpoint, Rights: 10, Badge: 3}}, Code: code(guest)},
	}}
}

func TestWholeTraps(t *testing.T) {
	r := ridden(t, guarded("movi r0, 1\nsvc 4\nmovi r1, 1\nmovi r2, 4\nsvc 6\nmovi r0, 1\nsvc 4", "hvc 9\nmovi r7, 8"))
	r.next(2, api.TrapSvc, api.OK)
	r.next(1, api.TrapHvc, api.ErrFault)
	r.registers(1, 0, 3, 16*5+4, 9, 0)
	if state, on, off := r.State(6); state != api.BlockedReply || on != 1 || off {
		t.Error(state, on, off)
	}
	r.next(5, api.TrapSvc, api.OK)
	r.next(1, 0, api.OK)
	r.registers(6, 7, 8)
}

func TestWholeInterrupts(t *testing.T) {
	inject := "movi r0, 2\nmovi r1, 275\nmovi r2, 5\nmovi r3, 20\nsvc 2\nmovi r2, 6\nmovi r3, 10\nsvc 2\nmovi r0, 1\nsvc 4"
	r := ridden(t, guarded(inject, "iar r1\neoi r1\niar r2\neoi r2\niar r3"))
	r.next(10, api.TrapSvc, api.OK)
	r.next(5, 0, api.OK)
	r.registers(6, 1, 6, 5, 1023)

	r = ridden(t, guarded("movi r4, 1\n"+inject, "iar r1\neoi r1"))
	r.next(11, api.TrapSvc, api.OK)
	r.next(2, api.TrapMaint, api.ErrFault)
	r.registers(1, 0, 3, 16*10+4, 6)
}

func TestWholeDeletion(t *testing.T) {
	b := api.Boot{Frames: 64, Lrs: 1, Pieces: []int{1, 8}, Progs: []api.Prog{
		{Priority: 5, Shares: []api.Share{{Kind: api.Untyped}, {Kind: api.CNode, N: 1}}, Code: code(
			"movi r0, 1\nmovi r1, 20\nmovi r2, 2\nmovi r3, 1\nmovi r4, 4\nmovi r5, 1\nmovi r6, 2\nsvc 2\nwfi\n" + // a node, in the second one's slot 4
				"movi r0, 2\nmovi r1, 81\nmovi r2, 4\nsvc 2")}, // it is deleted
		{Priority: 5, Shares: []api.Share{{Kind: api.Untyped, N: 1}}, Code: code(
			"movi r0, 1\nmovi r1, 20\nmovi r2, 4\nmovi r3, 1\nmovi r5, 8\nmovi r6, 4\nsvc 2\nwfi")}, // eight endpoints, in that node
	}}
	r := ridden(t, b)
	r.next(17, api.TrapWfi, api.OK)
	if len(r.view.Slots) != 4+8 {
		t.Fatal(r.view.Slots)
	}
	r.next(4, api.TrapSvc, api.ErrAgain)
	if len(r.view.Slots) != 4+2 || r.Units() != 6 {
		t.Error(r.view.Slots, r.Units())
	}
	r.next(1, api.TrapSvc, api.OK)
	if len(r.view.Slots) != 3 || r.Units() != 3 {
		t.Error(r.view.Slots, r.Units())
	}
}

// TestEndings deletes, from another's node, the last cap of an endpoint where that one waits, and the root of the space where a slot of that one has mapped a frame.
func TestEndings(t *testing.T) {
	const deletes = "movi r0, 1\nmovi r1, 81\nmovi r2, 1\nsvc 2"
	b := api.Boot{Frames: 64, Lrs: 1, Endpoints: 1, Progs: []api.Prog{
		{Priority: 4, Shares: []api.Share{{Kind: api.CNode, N: 1}}, Code: code(deletes)},
		{Priority: 5, Data: 1, Shares: []api.Share{{Kind: api.Endpoint, Rights: 3}}, Code: code("movi r0, 1\nsvc 4")},
	}}
	r := ridden(t, b)
	r.next(2, api.TrapSvc, api.OK)
	if state, on, _ := r.State(6); state != api.BlockedRecv || on != 12 {
		t.Fatal(state, on)
	}
	r.next(4, api.TrapSvc, api.OK)
	r.registers(6, 15, uint32(api.ErrEndpoint))
	if r.Current() != 6 || len(r.view.Slots) != 1 {
		t.Error(r.view)
	}

	b.Progs[0].Priority = 5
	b.Progs[0].Code = code("wfi\n" + deletes)
	b.Progs[1].Shares = []api.Share{{Kind: api.Table, N: 1}, {Kind: api.Frame, Rights: 7}}
	b.Progs[1].Code = code("movi r0, 2\nmovi r1, 194\nmovi r2, 9\nmovi r3, 7\nmovi r6, 1\nsvc 2\nwfi")
	r = ridden(t, b)
	r.next(8, api.TrapWfi, api.OK)
	if !May(r.Kernel, 6, 11, api.Exec) || len(r.view.Maps) != 4 {
		t.Fatal(r.view.Maps)
	}
	r.next(4, api.TrapSvc, api.OK)
	if May(r.Kernel, 6, 11, api.Read) || len(r.view.Maps) != 1 || len(r.view.Slots) != 2 {
		t.Error(r.view)
	}
}

func TestWholeDevices(t *testing.T) {
	r := ridden(t, lent())
	at := api.Event{Kind: api.EvDma, N: 3, At: 65, Write: true, Value: 9}
	if n, e := r.event(at); n != 0 || e != api.ErrFault {
		t.Error(n, e)
	}
	r.next(4, api.TrapSvc, api.OK)
	if n, e := r.event(at); n != 9 || e != api.OK || r.bytes["a device"] != 1 {
		t.Error(n, e, r.bytes)
	}
	if w, _ := r.Load(6*api.FrameBytes+1, 1); w != 9 {
		t.Error(w)
	}
	r.next(8, api.TrapSvc, api.OK)
	if n, e := r.event(at); n != 0 || e != api.ErrFault || r.bytes["a device"] != 1 {
		t.Error(n, e, r.bytes)
	}
}
