package kernel

import (
	"testing"

	"viceroy/api"
)

// handled is a thread 1 that may receive over the endpoint 11, and a thread 6 whose handler's address is 3, where it has the badge 5.
func handled(t *testing.T, guest bool, src string) *world {
	t.Helper()
	b := pair([]api.Share{endpoint(all, 0), {Kind: api.Tcb, N: 1}}, []api.Share{endpoint(all, 1), endpoint(all, 2), endpoint(api.Write|api.Grant, 5)})
	b.Notes, b.Endpoints = 1, 1
	b.Progs[1].Handler, b.Progs[1].Guest, b.Progs[1].Data = 3, guest, 1
	if src != "" {
		b.Progs[1].Code = code(src)
	}
	w := start(t, b)
	if guest {
		// The endpoint is 13, the virtual processor 12.
		same(t, w.guests.Thread(12), 6)
	}
	return w
}

// TestFaultWords lets a thread, and a guest, fault in each way there is, and asks what the handler is told.
func TestFaultWords(t *testing.T) {
	const table = 1 << 31
	for _, x := range []struct {
		name  string
		guest bool
		src   string
		pc    int
		regs  []uint32
		sys   uint32 // SysTable
		words []uint32
		after int // its Pc
	}{
		{"fetch, a page that is missing", false, "nop", 128, nil, 0, []uint32{16*1 + 4, 0, 128, 1 + 4*2 + 16, 2}, 128},
		{"fetch, a table that is missing", false, "nop", 2048, nil, 0, []uint32{16*1 + 4, 0, 2048, 1 + 4*2, 32}, 2048},
		{"fetch, data", false, "nop", 64, nil, 0, []uint32{16*1 + 4, 0, 64, 2 + 4*2 + 16, 1}, 64},
		{"load", false, "ldr r1, [r2 + 4]", 0, []uint32{2: 192}, 0, []uint32{16*2 + 4, 0, 196, 1 + 4*2 + 16, 3}, 0},
		{"store", false, "strb r1, [r2 + 4]", 0, []uint32{2: 1}, 0, []uint32{16*3 + 4, 0, 5, 2 + 4*2 + 16, 0}, 0},
		{"align, Pc", false, "nop", 2, nil, 0, []uint32{16*4 + 4, 0, 2, 0, 0}, 2},
		{"align, data", false, "nop\nldr r1, [r2 + 0]", 4, []uint32{2: 67}, 0, []uint32{16*4 + 4, 0, 67, 0, 0}, 4},
		{"hvc of a thread", false, "hvc 3", 0, nil, 0, []uint32{16*8 + 4, 0x11000003, 0, 0, 0}, 0},
		{"undef", false, "nop\nword 0xffffffff", 4, nil, 0, []uint32{16*8 + 4, 0xffffffff, 4, 0, 0}, 4},
		{"hvc", true, "hvc 9", 0, nil, 0, []uint32{16*5 + 4, 9, 0, 0, 0}, 0},
		{"svc of a guest", true, "nop\nsvc 4", 4, nil, 0, []uint32{16*6 + 4, 4, 4, 0, 0}, 4},
		{"mrs", true, "mrs r1, 7", 0, nil, 0, []uint32{16*7 + 4, 7, 0, 0, 0}, 0},
		{"msr", true, "msr r1, 6", 0, nil, 0, []uint32{16*7 + 4, 6, 0, 0, 0}, 0},
		{"wfi of a guest", true, "wfi", 0, nil, 0, []uint32{16*9 + 4, 0, 0, 0, 0}, 0},
		{"the guest's table is missing", true, "nop", 0, nil, table + 2, []uint32{16*1 + 4, 0, 0, 1 + 4*2 + 16 + 32, 2}, 0},
		{"the guest's table says nothing", true, "nop", 100 * 64, nil, table + 1, []uint32{16*1 + 4, 0, 100 * 64, 1 + 4, 100}, 100 * 64},
	} {
		for _, waits := range []bool{true, false} {
			w := handled(t, x.guest, x.src)
			if waits {
				w.want(w.sys(1, api.SysRecv, 1), api.OK)
			}
			if x.guest {
				w.guests.Write(12, api.SysTable, x.sys)
			}
			n, e := w.at(6, x.pc, x.regs...)
			same(t, []any{n, e}, []any{int(x.words[0]) / 16, api.ErrFault})
			if !waits {
				s, _, _ := w.State(6)
				same(t, s, api.BlockedSend)
				w.want(w.sys(1, api.SysRecv, 1), api.OK)
			}
			if got := w.regs(1); got[0] != 5 {
				t.Error(x.name, *got)
			}
			same(t, w.regs(1)[1:6], x.words)
			w.is(6, api.BlockedReply, 1, false)
			w.is(1, api.Inactive, -1, false)
			c, _ := w.Cpu(6)
			same(t, c.Pc, x.after)
			same(t, c.Regs[15], uint32(0))
			w.sound()
		}
	}
}

// TestMaintenance: the end of a level-flagged interrupt has gone through, and is told.
func TestMaintenance(t *testing.T) {
	w := handled(t, true, "iar r1\neoi r1")
	w.guests.Inject(12, 7, 3, true)
	w.at(6, 0)
	n, e := w.at(6, 4)
	same(t, []any{n, e}, []any{api.TrapMaint, api.ErrFault})
	w.want(w.sys(1, api.SysRecv, 1), api.OK)
	same(t, w.regs(1)[:6], []uint32{5, 16*10 + 4, 7, 4, 0, 0})
	c, _ := w.Cpu(6)
	same(t, c.Pc, 8)
	same(t, len(w.Virtual(6)), 0)
}

func TestAnswers(t *testing.T) {
	for _, x := range []struct {
		name  string
		regs  []uint32 // the handler's, from 1 on
		pc    int
		first uint32
		off   bool
	}{
		{"do it again", []uint32{0, 40, 50}, 8, 9, false},
		{"go on elsewhere", []uint32{1, 40, 50}, 40, 9, false},
		{"16 bits", []uint32{1, 0x12345678, 50}, 0x5678, 9, false},
		{"with another register", []uint32{2, 40, 50, 60}, 40, 50, false},
		{"with more words", []uint32{4, 41, 51, 61, 71}, 41, 51, false},
		{"off", []uint32{16*1 + 2, 40, 50}, 8, 9, true},
		{"off, by the highest label", []uint32{1 << 23, 40, 50}, 8, 9, true},
		{"no label", []uint32{1<<24 + 1, 40, 50}, 40, 9, false},
	} {
		for _, call := range []int{api.SysReply, api.SysReplyRecv} {
			w := handled(t, true, "nop\nnop\nhvc 1")
			w.want(w.sys(1, api.SysRecv, 1), api.OK)
			w.at(6, 8, 9)
			w.want(w.sys(1, call, append([]uint32{1}, x.regs...)...), api.OK)
			c, _ := w.Cpu(6)
			if c.Pc != x.pc || c.Regs[0] != x.first || c.Regs[1] != 0 || c.Regs[2] != 0 {
				t.Error(x.name, c)
			}
			w.is(6, api.Inactive, -1, x.off)
			same(t, w.thread(6).faulted, false)
			if !x.off {
				same(t, w.Current() == 6, call == api.SysReplyRecv)
			}
		}
	}
}

// TestTrapsAreToldOnce: the guest does nothing till it is answered, and then goes on.
func TestTrapsAreToldOnce(t *testing.T) {
	w := handled(t, true, "hvc 1\nhvc 2\njmp 0")
	told := 0
	for i := range 6 {
		n, e := w.at(6, w.thread(6).pc)
		same(t, []any{n, e}, []any{api.TrapHvc, api.ErrFault})
		w.want(w.sys(1, api.SysNBRecv, 1), api.OK)
		same(t, w.regs(1)[2], uint32(1+i%2))
		told++
		for range 3 {
			w.want(w.sys(1, api.SysYield), api.OK)
			same(t, w.Current(), 1)
		}
		w.want(w.sys(1, api.SysReply, 0, 1, uint32(4-4*(i%2))), api.OK)
	}
	same(t, told, 6)
}

// TestNoHandler: who has none is off, whatever stands in the way.
func TestNoHandler(t *testing.T) {
	for _, x := range []struct {
		handler int
		off     bool
	}{{1, false}, {2, true}, {3, true}, {4, true}, {5, true}, {6, true}, {7, true}, {0, true}, {15, true}, {16, true}, {65535, true}} {
		b := single(endpoint(api.Write|api.Grant, 0), endpoint(api.Write|api.Read, 0), endpoint(api.Grant|api.Read, 0), endpoint(0, 0), note(3, 0), api.Share{Kind: api.Tcb}, api.Share{Kind: api.Untyped})
		b.Progs[0].Handler = x.handler
		w := start(t, b)
		n, e := w.at(1, 0)
		same(t, []any{n, e, w.Current()}, []any{api.TrapUndef, api.ErrFault, -1})
		c, _ := w.Cpu(1)
		same(t, []any{c.Pc, c.Regs[15]}, []any{0, uint32(0)})
		if x.off {
			w.is(1, api.Inactive, -1, true)
		} else {
			w.is(1, api.BlockedSend, 6, false)
		}
		same(t, w.thread(1).faulted, !x.off)
		w.sound()
	}
}

// TestGuestsState: a guest's registers are its own, however often others run between.
func TestGuestsState(t *testing.T) {
	b := pair(nil, nil)
	src := "msr r1, 0\nmsr r2, 1\nmsr r3, 2\nmsr r4, 4\nmrs r5, 6\nmrs r6, 4"
	for i := range b.Progs {
		b.Progs[i].Guest, b.Progs[i].Code = true, code(src)
	}
	w := start(t, b)
	// The guests 1 and 7, their virtual processors 6 and 12.
	set := [2][4]uint32{{5, 6, 7, 8}, {15, 16, 17, 18}}
	pc := 0
	for range 4 {
		for i, n := range []int{1, 7} {
			copy(w.thread(n).regs[1:], set[i][:])
			cause, e := w.Event(api.Event{Kind: api.EvStep})
			same(t, []any{cause, e}, []any{0, api.OK})
			for range 4 {
				w.Event(api.Event{Kind: api.EvTick})
			}
		}
		pc += 4
	}
	for i, n := range []int{1, 7} {
		c, _ := w.Cpu(n)
		same(t, c.Sys, [8]uint32{set[i][0], set[i][1], set[i][2], 0, set[i][3], 16, uint32(6 + 6*i), 0})
		same(t, c.Pc, pc)
	}
}
