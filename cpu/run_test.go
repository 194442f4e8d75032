package cpu

import (
	"math"
	"testing"

	"viceroy/api"
	"viceroy/pte"
)

// runs wants what Run tells.
func runs(t *testing.T, m Machine, c api.Cpu, many int, want api.Cpu, trap api.Trap, done int) {
	t.Helper()
	if d, got, n := Run(m, c, vmid, root, many); d != want || got != trap || n != done {
		t.Errorf("Run of %d from %d = %v, %+v, %d, want %v, %+v, %d", many, c.Pc, d, got, n, want, trap, done)
	}
}

// counting counts in the register 1, forever: from its second step on each third one adds 1.
const counting = "movi r2, 1\nloop: add r1, r1, r2\nnop\njmp loop"

// counted is what counting has come to.
func counted(steps int) api.Cpu {
	if steps <= 0 {
		return api.Cpu{}
	}
	return with([]int{4, 8, 12}[(steps-1)%3], 1, uint32(steps+1)/3, 2, 1)
}

func TestC2HowMany(t *testing.T) {
	for _, guest := range kinds {
		for _, many := range []int{math.MinInt, math.MinInt + 1, -1 << 32, -1000, -1, 0, 1, 2, 3, 4, 10, 998, 999, 1000, 1001, 1002, 2000, 1 << 16, 1 << 32, 1<<32 + 1, math.MaxInt} {
			m := world(t, guest)
			lay(t, m, 0, source(t, counting)...)
			done := max(0, min(many, 1000))
			runs(t, m, api.Cpu{}, many, counted(done), api.Trap{}, done)
		}
	}
}

// TestC2ATrapEndsIt has a trap at each place of a program, and ends ahead of it, with it, and behind it.
func TestC2ATrapEndsIt(t *testing.T) {
	for _, guest := range kinds {
		for _, x := range []struct {
			text string
			trap api.Trap
		}{
			{"svc 7", api.Trap{Cause: api.TrapSvc, Num: 7}},
			{"word 0x1a000000", api.Trap{Cause: api.TrapUndef, Num: 0x1a000000}},
			{"wfi", api.Trap{Cause: api.TrapWfi}},
		} {
			for k := range 12 {
				m := world(t, guest)
				for n := range k {
					lay(t, m, 4*n, encode(t, api.Instr{Op: api.OpNop}))
				}
				lay(t, m, 4*k, source(t, x.text)...)
				x.trap.Addr = 4 * k
				for many := range 16 {
					if many <= k {
						runs(t, m, api.Cpu{}, many, with(4*many), api.Trap{}, many)
						continue
					}
					runs(t, m, api.Cpu{}, many, with(4*k), x.trap, k)
				}
			}
		}
	}
}

// TestC2TheLastOneTraps has the trap come as the step 999, as the thousandth one, and as one that is not done any more.
func TestC2TheLastOneTraps(t *testing.T) {
	m := world(t, false)
	lay(t, m, 0, source(t, "nop\nloop: sub r1, r1, r2\nbne r1, r0, loop\nsvc 3")...)
	trap := api.Trap{Cause: api.TrapSvc, Num: 3, Addr: 12}
	from := func(pc int, rounds uint32) api.Cpu { return with(pc, 1, rounds, 2, 1) }
	for _, many := range []int{1000, 1001, math.MaxInt} {
		runs(t, m, from(4, 499), many, from(12, 0), trap, 998)
		runs(t, m, from(0, 499), many, from(12, 0), trap, 999)
		runs(t, m, from(4, 500), many, from(12, 0), api.Trap{}, 1000)
	}
	runs(t, m, from(0, 499), 999, from(12, 0), api.Trap{}, 999)
}

func TestC2FaultsEndIt(t *testing.T) {
	for _, guest := range kinds {
		m := world(t, guest)
		lay(t, m, 0, source(t, "movi r1, 64\nstr r1, [r1 + 0]\nldr r2, [r1 + 64]\nnop")...)
		want := with(8, 1, 64)
		runs(t, m, api.Cpu{}, 100, want, api.Trap{Cause: api.TrapLoad, Addr: 128, Fault: api.Fault{Kind: api.FaultMissing, Stage: 2, Level: 1, Page: 2}}, 2)
		lay(t, m, 8, source(t, "jmp 128")...)
		want.Pc = 128
		runs(t, m, api.Cpu{}, 100, want, api.Trap{Cause: api.TrapFetch, Addr: 128, Fault: api.Fault{Kind: api.FaultMissing, Stage: 2, Level: 1, Page: 2}}, 3)
		lay(t, m, 8, source(t, "jmp 130")...)
		want.Pc = 130
		runs(t, m, api.Cpu{}, 100, want, api.Trap{Cause: api.TrapAlign, Addr: 130}, 3)
		for _, pc := range append([]int{2, 65536, -4}, farNumbers...) {
			if pc != 1024 {
				runs(t, m, full(pc), 5, full(pc), api.Trap{Cause: api.TrapAlign, Addr: pc}, 0)
				runs(t, m, full(pc), 0, full(pc), api.Trap{}, 0)
			}
		}
	}
}

// TestC2Maintenance has the end of a level-flagged interrupt end it: that step is not counted, and Pc has gone on.
func TestC2Maintenance(t *testing.T) {
	m := world(t, true)
	lay(t, m, 0, source(t, "nop\niar r1\neoi r1\nmovi r3, 9\niar r2\neoi r2\nwfi")...)
	good(t, m.V.Inject(9, 3, true), m.V.Inject(12, 200, false))
	c := with(12, 1, 9)
	runs(t, m, api.Cpu{}, 1000, c, api.Trap{Cause: api.TrapMaint, Num: 9, Addr: 8}, 2)
	runs(t, m, c, 1000, with(24, 1, 9, 2, 12, 3, 9), api.Trap{Cause: api.TrapWfi, Addr: 24}, 3)
	if injected, acked, ended := m.V.Counts(); injected != 2 || acked != 2 || ended != 2 {
		t.Errorf("Counts = %d, %d, %d", injected, acked, ended)
	}
}

// TestExamplesOfTheWhole is what the document's examples 5 and 6 say of iar and eoi.
func TestExamplesOfTheWhole(t *testing.T) {
	m := world(t, true)
	lay(t, m, 0, source(t, "iar r1\neoi r1\niar r2\neoi r2\niar r3\nhvc 9")...)
	good(t, m.V.Inject(40, 20, false), m.V.Inject(50, 10, false))
	runs(t, m, api.Cpu{}, 100, with(20, 1, 50, 2, 40, 3, 1023), api.Trap{Cause: api.TrapHvc, Num: 9, Addr: 20}, 5)
	good(t, m.V.Inject(40, 20, true))
	runs(t, m, api.Cpu{}, 100, with(8, 1, 40), api.Trap{Cause: api.TrapMaint, Num: 40, Addr: 4}, 1)
}

// TestC2FillsByPc has each step's line stand in the entry that is its Pc divided by 4, modulo 8.
func TestC2FillsByPc(t *testing.T) {
	for k := range 16 {
		m := world(t, false)
		for n := range 16 {
			lay(t, m, 4*n, encode(t, api.Instr{Op: api.OpNop}))
		}
		runs(t, m, with(4*k), 1, with(4*k+4), api.Trap{}, 1)
		nothingButThese(t, m.T, map[int]api.Line{k % 8: {Vmid: vmid, Page: 0, Frame: 1, Rights: 5}}, k)
	}
	m := world(t, false)
	lay(t, m, 0, source(t, "ldr r1, [r0 + 64]\nldr r1, [r0 + 576]\nldr r1, [r0 + 640]\nldr r1, [r0 + 65532]\nsvc 0")...)
	runs(t, m, api.Cpu{}, 9, with(16), api.Trap{Cause: api.TrapSvc, Addr: 16}, 4)
	nothingButThese(t, m.T, map[int]api.Line{
		0: {Vmid: vmid, Page: 1, Frame: 2, Rights: 3},
		1: {Vmid: vmid, Page: 9, Frame: 39, Rights: all},
		2: {Vmid: vmid, Page: 10, Frame: 11, Rights: all},
		3: {Vmid: vmid, Page: 1023, Frame: 6, Rights: all},
		4: {Vmid: vmid, Page: 0, Frame: 1, Rights: 5},
	}, "five pages")
}

// TestC3BehindAForgettingNothingIsReached takes a page out of the table: a step that is forgotten by the buffer does not reach it any more.
func TestC3BehindAForgettingNothingIsReached(t *testing.T) {
	for _, guest := range kinds {
		m := world(t, guest)
		lay(t, m, 0, source(t, "str r2, [r1 + 0]")...)
		c := with(0, 1, 64, 2, 77)
		goes(t, m, c, with(4, 1, 64, 2, 77), "mapped")
		good(t, pte.Put(m.R, 4, 1, api.Entry{}))
		m.T.FlushPage(vmid, 1)
		c.Regs[2] = 78
		traps(t, m, c, api.Trap{Cause: api.TrapStore, Addr: 64, Fault: api.Fault{Kind: api.FaultMissing, Stage: 2, Level: 1, Page: 1}}, "unmapped")
		good(t, pte.Put(m.R, 4, 1, leaf(2, api.Read)))
		m.T.FlushPage(vmid, 1)
		traps(t, m, c, api.Trap{Cause: api.TrapStore, Addr: 64, Fault: api.Fault{Kind: api.FaultRights, Stage: 2, Level: 1, Page: 1}}, "to be read alone")
	}
}
