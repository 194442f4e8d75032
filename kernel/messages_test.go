package kernel

import (
	"testing"

	"viceroy/api"
)

// Two threads, 1 and 6, with the endpoints 11 and 12, the notifications 13 and 14: what each has of these in its slots from 1 on.
func talkers(t *testing.T, first, second []api.Share) *world {
	t.Helper()
	return start(t, pair(first, second))
}

func endpoint(rights, badge int) api.Share {
	return api.Share{Kind: api.Endpoint, Rights: rights, Badge: badge}
}

func note(rights, badge int) api.Share {
	return api.Share{Kind: api.Note, Rights: rights, Badge: badge}
}

const (
	all  = api.Read | api.Write | api.Grant
	info = 1<<31 | 5<<24 | 0xabcde<<4 // a label, and bits above it that say nothing
)

func TestSendAndReceive(t *testing.T) {
	w := talkers(t, []api.Share{endpoint(all, 3)}, []api.Share{endpoint(all, 0x7ffff)})
	w.want(w.sys(1, api.SysRecv, 1), api.OK)
	w.is(1, api.BlockedRecv, 11, false)
	// Only the words that count are told: the registers behind them stay.
	w.thread(1).regs = [16]uint32{0, 9, 9, 9, 9, 9, 9, 9, 9, 9, 9, 9, 9, 9, 9, 0}
	w.want(w.sys(6, api.SysSend, 1, info+2, 21, 22, 23, 24), api.OK)
	same(t, *w.regs(1), [16]uint32{0x7ffff, 0xabcde<<4 + 2, 21, 22, 9, 9, 9, 9, 9, 9, 9, 9, 9, 9, 9, 0})
	w.is(1, api.Inactive, -1, false)
	w.is(6, api.Inactive, -1, false)
	// More than four words are four.
	w.want(w.sys(1, api.SysSend, 1, 15, 31, 32, 33, 34), api.OK)
	w.is(1, api.BlockedSend, 11, false)
	w.want(w.sys(6, api.SysNBRecv, 1), api.OK)
	same(t, *w.regs(6), [16]uint32{3, 4, 31, 32, 33, 34})
	w.is(1, api.Inactive, -1, false)
	// Nobody sends: registers 0 and 1 are 0, and only these.
	w.want(w.sys(6, api.SysNBRecv, 1), api.OK)
	same(t, *w.regs(6), [16]uint32{0, 0, 31, 32, 33, 34})
	w.is(6, api.Inactive, -1, false)
	// Nobody receives: what does not wait is lost.
	w.want(w.sys(6, api.SysNBSend, 1, 1, 5), api.OK)
	w.is(6, api.Inactive, -1, false)
	w.want(w.sys(1, api.SysNBRecv, 1, 9), api.OK)
	same(t, w.regs(1)[0], uint32(0))
	// Who receives gets what does not wait.
	w.want(w.sys(1, api.SysRecv, 1), api.OK)
	w.want(w.sys(6, api.SysNBSend, 1, 1, 5), api.OK)
	same(t, w.regs(1)[:3], []uint32{0x7ffff, 1, 5})
	w.sound()
}

func TestSendErrors(t *testing.T) {
	w := talkers(t, []api.Share{endpoint(api.Read, 0), endpoint(api.Write, 0), endpoint(api.Grant, 0), endpoint(api.Read|api.Grant, 0), note(api.Read, 0), endpoint(0, 0), note(0, 0)}, nil)
	for _, x := range []struct {
		call int
		c    uint32
		e    api.Errno
	}{
		{api.SysCall, 0, api.ErrLookup}, {api.SysSend, 8, api.ErrLookup}, {api.SysNBSend, 15, api.ErrLookup}, {api.SysSend, 16, api.ErrGuard}, {api.SysSend, 0x10002, api.OK}, {api.SysSend, 0xfff2, api.ErrGuard},
		{api.SysCall, 1, api.ErrRights}, {api.SysSend, 1, api.ErrRights}, {api.SysNBSend, 1, api.ErrRights},
		{api.SysCall, 2, api.ErrRights}, {api.SysNBSend, 2, api.OK}, {api.SysNBSend, 3, api.ErrRights}, {api.SysCall, 4, api.ErrRights}, {api.SysSend, 4, api.ErrRights},
		{api.SysCall, 5, api.ErrRights}, {api.SysSend, 5, api.ErrRights}, {api.SysNBSend, 5, api.ErrRights},
		{api.SysRecv, 0, api.ErrLookup}, {api.SysNBRecv, 100, api.ErrGuard}, {api.SysRecv, 2, api.ErrRights}, {api.SysNBRecv, 3, api.ErrRights}, {api.SysRecv, 6, api.ErrRights}, {api.SysRecv, 7, api.ErrRights}, {api.SysReplyRecv, 2, api.ErrRights}, {api.SysReplyRecv, 9, api.ErrLookup},
		{api.SysReply, 1, api.ErrReply}, {api.SysReply, 99, api.ErrReply},
		{9, 1, api.ErrCall},
	} {
		if x.e == api.OK && x.call == api.SysSend {
			x.call = api.SysNBSend
		}
		w.want(w.sys(1, x.call, x.c), x.e)
		w.is(1, api.Inactive, -1, false)
	}
	for _, call := range []int{api.SysRecv, api.SysNBRecv, api.SysReplyRecv} {
		w := talkers(t, []api.Share{{Kind: api.Tcb}, {Kind: api.CNode, N: 1}, {Kind: api.Irq}, {Kind: api.Untyped}, {Kind: api.Stream}, {Kind: api.Table}}, nil)
		for c := range 6 {
			w.want(w.sys(1, call, uint32(c+1)), api.ErrKind)
		}
	}
}

func TestCallAndReply(t *testing.T) {
	w := talkers(t, []api.Share{endpoint(all, 1)}, []api.Share{endpoint(api.Write|api.Grant, 2)})
	for _, waits := range []bool{true, false} {
		// The server waits ahead of the call, or comes behind it.
		if waits {
			w.want(w.sys(1, api.SysRecv, 1), api.OK)
		}
		w.want(w.sys(6, api.SysCall, 1, 16*7+1, 70), api.OK)
		if !waits {
			w.is(6, api.BlockedSend, 11, false)
			w.want(w.sys(1, api.SysRecv, 1), api.OK)
		}
		w.is(6, api.BlockedReply, 1, false)
		same(t, w.regs(1)[:3], []uint32{2, 16*7 + 1, 70})
		w.want(w.sys(1, api.SysReply, 99, 16*8+2, 80, 81, 82), api.OK)
		w.is(6, api.Inactive, -1, false)
		// The answer has no badge.
		same(t, w.regs(6)[:5], []uint32{0, 16*8 + 2, 80, 81, 0})
		same(t, w.regs(6)[15], uint32(0))
		w.want(w.sys(1, api.SysReply, 1, 16, 80), api.ErrReply)
	}
	w.sound()
}

func TestReplyAndReceive(t *testing.T) {
	w := talkers(t, []api.Share{endpoint(all, 1), endpoint(api.Write, 0)}, []api.Share{endpoint(api.Write|api.Grant, 2)})
	// Without a call it is a Recv.
	w.want(w.sys(1, api.SysReplyRecv, 1, 1, 5), api.OK)
	w.is(1, api.BlockedRecv, 11, false)
	w.want(w.sys(6, api.SysCall, 1, 0), api.OK)
	w.want(w.sys(1, api.SysReplyRecv, 1, 1, 5), api.OK)
	w.is(1, api.BlockedRecv, 11, false)
	w.is(6, api.Inactive, -1, false)
	same(t, w.regs(6)[:3], []uint32{0, 1, 5})
	// What the reply did stays, though the rest fails.
	for _, x := range []struct {
		c uint32
		e api.Errno
	}{{2, api.ErrRights}, {3, api.ErrLookup}, {99, api.ErrGuard}} {
		w.want(w.sys(6, api.SysCall, 1, 0), api.OK)
		if w.mail.Caller(1) != 6 {
			w.want(w.sys(1, api.SysRecv, 1), api.OK)
		}
		w.want(w.sys(1, api.SysReplyRecv, x.c, 1, 6), x.e)
		w.is(6, api.Inactive, -1, false)
		same(t, w.regs(6)[:3], []uint32{0, 1, 6})
	}
}

// TestForgottenCall: who receives again gives up the call that it has not answered; that one waits on, for nobody.
func TestForgottenCall(t *testing.T) {
	w := talkers(t, []api.Share{endpoint(all, 1), note(3, 4)}, []api.Share{endpoint(api.Write|api.Grant, 2)})
	for _, c := range []uint32{1, 2} {
		w.want(w.sys(6, api.SysCall, 1, 0), api.OK)
		w.want(w.sys(1, api.SysNBRecv, 1), api.OK)
		w.is(6, api.BlockedReply, 1, false)
		w.want(w.sys(1, api.SysNBRecv, c), api.OK)
		w.is(6, api.BlockedReply, -1, false)
		w.want(w.sys(1, api.SysReply, 1, 0), api.ErrReply)
		w.mail.Cancel(6)
		w.queue.Wake(6)
	}
}

func TestSignals(t *testing.T) {
	w := talkers(t, []api.Share{note(api.Read, 0)}, []api.Share{note(api.Write, 4), note(api.Write, 3), endpoint(all, 0)})
	// What is signalled while nobody waits is kept, all bits of it.
	w.want(w.sys(6, api.SysCall, 1, 5, 1, 2, 3), api.OK)
	w.want(w.sys(6, api.SysNBSend, 2), api.OK)
	w.is(6, api.Inactive, -1, false)
	w.thread(1).regs[2] = 7
	w.want(w.sys(1, api.SysRecv, 1, 99), api.OK)
	same(t, w.regs(1)[:3], []uint32{7, 0, 7})
	w.want(w.sys(1, api.SysNBRecv, 1, 99), api.OK)
	same(t, w.regs(1)[:3], []uint32{0, 0, 7})
	// Who waits is told at once.
	w.want(w.sys(1, api.SysRecv, 1), api.OK)
	w.is(1, api.BlockedNote, 13, false)
	w.want(w.sys(6, api.SysSend, 1), api.OK)
	w.is(1, api.Inactive, -1, false)
	same(t, w.regs(1)[:3], []uint32{4, 0, 7})
	w.want(w.sys(1, api.SysNBRecv, 1, 99), api.OK)
	same(t, w.regs(1)[0], uint32(0))
	w.sound()
}

// TestWokenRuns: who is woken runs at once, if it is more urgent.
func TestWokenRuns(t *testing.T) {
	b := pair([]api.Share{endpoint(all, 1)}, []api.Share{endpoint(all, 2)})
	b.Progs[0].Priority = 9
	w := start(t, b)
	w.want(w.sys(1, api.SysRecv, 1), api.OK)
	same(t, w.Current(), 6)
	w.want(w.sys(6, api.SysSend, 1, 0), api.OK)
	same(t, w.Current(), 1)
}

// TestOrderOfSenders: who came first sends, or receives, first.
func TestOrderOfSenders(t *testing.T) {
	p := api.Prog{Priority: 5, Code: code(svcs), Shares: []api.Share{endpoint(all, 0)}}
	b := api.Boot{Frames: 64, Lrs: 1, Endpoints: 1, Progs: []api.Prog{p, p, p, p}}
	for i := range b.Progs {
		b.Progs[i].Shares = []api.Share{endpoint(all, i)}
	}
	// The threads 1, 6, 11, 16; the endpoint 21.
	w := start(t, b)
	for i, n := range []int{11, 6, 16} {
		w.want(w.sys(n, api.SysSend, 1, 1, uint32(i)), api.OK)
	}
	for i, badge := range []uint32{2, 1, 3} {
		w.want(w.sys(1, api.SysRecv, 1), api.OK)
		same(t, w.regs(1)[:3], []uint32{badge, 1, uint32(i)})
	}
	for _, n := range []int{16, 1, 6} {
		w.want(w.sys(n, api.SysRecv, 1), api.OK)
	}
	for i, n := range []int{16, 1, 6} {
		w.want(w.sys(11, api.SysSend, 1, 1, uint32(i)), api.OK)
		w.is(n, api.Inactive, -1, false)
		same(t, w.regs(n)[:3], []uint32{2, 1, uint32(i)})
	}
}

// TestBring tries what keeps a cap from being brought: each row changes one thing.
func TestBring(t *testing.T) {
	good := func() (first, second []api.Share) {
		return []api.Share{endpoint(all, 0), {Kind: api.CNode, N: 1}}, []api.Share{endpoint(all, 2), note(3, 9), {Kind: api.Untyped}, {Kind: api.Stream}, {Kind: api.Table}, {Kind: api.Tcb}, endpoint(api.Write, 1)}
	}
	for _, x := range []struct {
		name   string
		c      uint32 // over which endpoint
		sends  uint32
		place  uint32
		answer uint32 // the receiver's register 6, which is 77 ahead
	}{
		{"a notification", 1, 2, 9, 1},
		{"the last slot", 1, 2, 15, 1},
		{"a thread", 1, 6, 9, 1},
		{"itself", 1, 1, 9, 1},
		{"nothing sent", 1, 0, 9, 77},
		{"no right to grant", 7, 2, 9, 77},
		{"an empty slot", 1, 9, 9, 0},
		{"no slot", 1, 16, 9, 0},
		{"a slot far away", 1, 0x10002, 9, 1},
		{"a slot of 16 bits", 1, 0x8002, 9, 0},
		{"memory", 1, 3, 9, 0},
		{"a stream", 1, 4, 9, 0},
		{"a table", 1, 5, 9, 0},
		{"a slot that is full", 1, 2, 1, 0},
		{"a place that is none", 1, 2, 16, 0},
		{"a place far away", 1, 2, 0x10009, 1},
	} {
		for i := range 4 {
			receiverFirst, call := i%2 == 0, api.SysSend+i/2*(api.SysCall-api.SysSend)
			if call == api.SysCall && x.c == 7 {
				continue
			}
			first, second := good()
			w := talkers(t, first, second)
			receive := func() {
				w.want(w.sys(1, api.SysRecv, 1, 0, 0, 0, 0, 0, 77, x.place), api.OK)
			}
			if receiverFirst {
				receive()
			}
			full := len(w.Full())
			w.want(w.sys(6, call, x.c, 1, 42, 0, 0, 0, x.sends), api.OK)
			if !receiverFirst {
				receive()
			}
			if w.regs(1)[2] != 42 || w.regs(1)[6] != x.answer {
				t.Error(x.name, i, *w.regs(1))
			}
			same(t, w.regs(6)[6], x.sends)
			at, from := api.Ref{Node: 2, Index: int(x.place & 15)}, api.Ref{Node: 7, Index: int(x.sends & 15)}
			if x.answer != 1 {
				same(t, len(w.Full()), full)
			} else {
				same(t, w.held(at), w.held(from))
				up, _ := w.forest.Parent(at)
				same(t, up, from)
			}
			w.sound()
		}
	}
}

// TestBringNode: a node's cap fits only nodes of lesser numbers.
func TestBringNode(t *testing.T) {
	p := api.Prog{Priority: 5, Code: code(svcs)}
	b := api.Boot{Frames: 64, Lrs: 1, Endpoints: 1, Progs: []api.Prog{p, p, p}}
	for i := range b.Progs {
		b.Progs[i].Shares = []api.Share{endpoint(all, 0)}
	}
	b.Progs[0].Shares = append(b.Progs[0].Shares, api.Share{Kind: api.CNode, N: 2}, api.Share{Kind: api.CNode, N: 1})
	// The threads 1, 6, 11.
	w := start(t, b)
	for i, x := range []struct {
		to     int
		c      uint32
		answer uint32
	}{{6, 2, 1}, {6, 3, 0}, {11, 2, 0}, {11, 3, 0}} {
		w.want(w.sys(x.to, api.SysRecv, 1, 0, 0, 0, 0, 0, 5, uint32(4+i)), api.OK)
		w.want(w.sys(1, api.SysSend, 1, 0, 0, 0, 0, 0, x.c, 0), api.OK)
		same(t, w.regs(x.to)[6], x.answer)
	}
	same(t, w.slot(7, 4), nodeCap(12))
}

// TestBringByReply: an answer always grants; an answer to a fault brings nothing.
func TestBringByReply(t *testing.T) {
	w := talkers(t, []api.Share{endpoint(all, 0), note(3, 1)}, []api.Share{endpoint(api.Write|api.Grant, 2)})
	w.want(w.sys(1, api.SysRecv, 1), api.OK)
	w.want(w.sys(6, api.SysCall, 1, 0, 0, 0, 0, 0, 0, 8), api.OK)
	w.want(w.sys(1, api.SysReply, 0, 0, 0, 0, 0, 0, 2), api.OK)
	same(t, w.slot(7, 8), api.Cap{Kind: api.Note, Obj: 13, Rights: 3, Badge: 1})
	// Its register 6 was 0, and is 1.
	same(t, w.regs(6)[6], uint32(1))
	w.want(w.sys(1, api.SysRecv, 1), api.OK)
	w.thread(6).handler = 1
	n, e := w.at(6, 0, 0, 0, 0, 0, 0, 0, 5, 9)
	same(t, []any{n, e}, []any{api.TrapUndef, api.ErrFault})
	w.want(w.sys(1, api.SysReply, 0, 0, 0, 0, 0, 0, 2), api.OK)
	same(t, w.slot(7, 9), api.Cap{})
	same(t, w.regs(6)[6], uint32(5))
	w.is(6, api.Inactive, -1, false)
	w.sound()
}

// TestBringOfFault: the message of a fault brings nothing, though the thread granted what it sent ahead.
func TestBringOfFault(t *testing.T) {
	for _, receiverFirst := range []bool{true, false} {
		w := talkers(t, []api.Share{endpoint(all, 0)}, []api.Share{endpoint(all, 2), note(3, 9)})
		w.thread(6).handler = 1
		w.want(w.sys(6, api.SysNBSend, 1, 0, 0, 0, 0, 0, 2), api.OK)
		if receiverFirst {
			w.want(w.sys(1, api.SysRecv, 1, 0, 0, 0, 0, 0, 77, 9), api.OK)
		}
		w.at(6, 0, 0, 0, 0, 0, 0, 0, 2)
		if !receiverFirst {
			w.want(w.sys(1, api.SysRecv, 1, 0, 0, 0, 0, 0, 77, 9), api.OK)
		}
		same(t, w.regs(1)[6], uint32(77))
		same(t, w.slot(2, 9), api.Cap{})
		w.is(6, api.BlockedReply, 1, false)
	}
}
