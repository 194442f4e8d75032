package vcpu

import (
	"testing"

	"viceroy/api"
	"viceroy/asm"
	"viceroy/cpu"
	"viceroy/pte"
	"viceroy/ram"
	"viceroy/tlb"
)

// served sets a timer and a mask, and then serves what comes, and counts in SysOwn.
const served = `movi r1, 200
msr r1, 2
movi r1, 3
msr r1, 3
loop: iar r2
add r6, r6, r2
eoi r2
mrs r3, 5
add r3, r3, r1
msr r3, 3
mrs r4, 6
mrs r5, 4
add r5, r5, r4
msr r5, 4
jmp loop`

// guests is a machine with a page of code, which all guests have.
type guests struct {
	t    *testing.T
	p    *Vcpus
	r    *ram.Ram
	b    *tlb.Tlb
	cpus map[int]api.Cpu // their registers; what stands in the banks is left out
	did  map[int]int
}

func newGuests(t *testing.T, lrs int, ids ...int) *guests {
	t.Helper()
	r, e := ram.New(3)
	good(t, e, pte.Put(r, 0, 0, api.Entry{Valid: true, Frame: 1}), pte.Put(r, 1, 0, api.Entry{Valid: true, Leaf: true, Rights: api.Exec, Frame: 2}))
	words, line, e := asm.Assemble(0, served)
	if e != api.OK {
		t.Fatal(line, e)
	}
	for n, w := range words {
		good(t, r.Store(128+4*n, 4, w))
	}
	g := &guests{t: t, p: made(t, lrs), r: r, b: tlb.New(), cpus: map[int]api.Cpu{}, did: map[int]int{}}
	for _, id := range ids {
		good(t, g.p.Add(id))
	}
	return g
}

// step does the next instruction of one, with the bank's registers. By how many it has done it is told ticks, and gets interrupts.
func (g *guests) step(id int) {
	g.t.Helper()
	good(g.t, g.p.Enter(id))
	c := g.cpus[id]
	c.Sys = g.p.Bank()
	c, trap := cpu.Step(cpu.Machine{R: g.r, T: g.b, V: g.p.Vgic(id)}, c, 1, 0, g.did[id]%8)
	if trap.Cause != api.TrapNone && trap.Cause != api.TrapMaint {
		g.t.Fatalf("%d traps: %+v", id, trap)
	}
	good(g.t, g.p.SetBank(c.Sys))
	c.Sys = registers{}
	g.cpus[id] = c
	g.did[id]++
	if g.did[id]%3 == 0 {
		g.p.Tick()
	}
	if n := g.did[id]; n%7 == id%7 {
		g.p.Inject(id, n%64, n*5%256, n%2 == 0)
	}
}

// guest is all that is seen of one.
type guest struct {
	cpu  api.Cpu
	sys  registers
	many [3]int
	next int
}

func (g *guests) guest(id int) guest {
	g.t.Helper()
	x := guest{cpu: g.cpus[id], sys: sysOf(g.t, g.p, id)}
	x.many[0], x.many[1], x.many[2] = g.p.Vgic(id).Counts()
	x.next, _ = g.p.Vgic(id).Next()
	return x
}

// T5, B8: what guests come to hangs neither on how often they are exchanged nor on how many list registers there are.
func TestB8Guests(t *testing.T) {
	const steps = 400
	ids := []int{3, 4, 1023}
	want := map[int][]guest{}
	for _, id := range ids {
		g := newGuests(t, 16, id)
		for range steps {
			g.step(id)
			want[id] = append(want[id], g.guest(id))
		}
		if last := want[id][steps-1]; last.many[2] < 20 || last.sys[api.SysOwn] != uint32(id)*((steps-4)/11) {
			t.Fatalf("the guest %d does nothing: %+v", id, last)
		}
	}
	d := dice{x: 8}
	for round := range 40 {
		g := newGuests(t, 1+d.throw(16), 1023, 4, 3)
		for g.did[3] < steps || g.did[4] < steps || g.did[1023] < steps {
			id := ids[d.throw(3)]
			for range 1 + d.throw(1+round) {
				if g.did[id] < steps {
					g.step(id)
				}
				if d.throw(5) == 0 {
					g.p.Leave()
				}
				for _, n := range ids {
					if k := g.did[n]; k > 0 && g.guest(n) != want[n][k-1] {
						t.Fatalf("%d behind %d steps: %+v; want %+v", n, k, g.guest(n), want[n][k-1])
					}
				}
			}
		}
	}
}
