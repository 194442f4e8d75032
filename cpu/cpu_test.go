package cpu

import (
	"bytes"
	"math"
	"slices"
	"testing"

	"viceroy/api"
	"viceroy/asm"
	"viceroy/isa"
	"viceroy/pte"
	"viceroy/ram"
	"viceroy/tlb"
	"viceroy/vgic"
)

// The world that most tests begin with: a memory of 40 frames, a space of the number 1 whose table is the frame 3, and these pages:
//
//	0 the frame 1, read and exec: the code     7 the frame 40, all rights: the first one that is not there
//	1 the frame 2, read and write: the data    8 the frame 1023, all rights: the last one of all
//	2 none                                     9 the frame 39, all rights: the last one that is there
//	3 the frame 7, read                       10 the frame 11, all rights
//	4 the frame 8, write                      11 an entry that is no leaf
//	5 the frame 9, exec                       12 a half word that is no entry
//	6 the frame 10, no right                1023 the frame 6, all rights
//
// The pages 32 to 63 have no table, those of 64 to 95 one that is not there; a leaf stands where that of 96 to 127 should be.
const (
	vmid  = 1
	root  = 3
	lines = api.TlbEntries
)

const all = api.Read | api.Write | api.Exec

var kinds = []bool{false, true}

// farNumbers are no number of a space, no frame and no entry of anything; some would be one if they were cut to fewer bits.
var farNumbers = []int{-1, -2, -7, -8, -64, -1 << 16, -1 << 31, -1 << 32, -1 << 58, math.MinInt, math.MinInt + 1, 1024, 1025, 1 << 16, 1<<16 + 1, 1 << 31, 1 << 32, 1<<32 + 1, 1<<32 + 3, 1 << 58, 1<<58 + 3, 1 << 62, math.MaxInt - 1, math.MaxInt}

func good(t *testing.T, errs ...api.Errno) {
	t.Helper()
	for n, e := range errs {
		if e != api.OK {
			t.Fatalf("call %d of %d: %v", n+1, len(errs), e)
		}
	}
}

func table(frame int) api.Entry { return api.Entry{Valid: true, Frame: frame} }

func leaf(frame, rights int) api.Entry {
	return api.Entry{Valid: true, Leaf: true, Rights: rights, Frame: frame}
}

func world(t *testing.T, guest bool) Machine {
	t.Helper()
	r, e := ram.New(40)
	good(t, e)
	good(t, pte.Put(r, root, 0, table(4)), pte.Put(r, root, 31, table(5)), pte.Put(r, root, 2, table(1000)), pte.Put(r, root, 3, leaf(12, all)))
	for page, l := range map[int]api.Entry{0: leaf(1, 5), 1: leaf(2, 3), 3: leaf(7, 1), 4: leaf(8, 2), 5: leaf(9, 4), 6: leaf(10, 0), 7: leaf(40, all), 8: leaf(1023, all), 9: leaf(39, all), 10: leaf(11, all), 11: table(13)} {
		good(t, pte.Put(r, 4, page, l))
	}
	good(t, r.Store(64*4+2*12, 2, 0x22), pte.Put(r, 5, 31, leaf(6, all)))
	m := Machine{R: r, T: tlb.New()}
	if guest {
		m.V, e = vgic.New(2)
		good(t, e)
	}
	return m
}

// frames tells in which frame of the world an address's page lies.
var frames = map[int]int{0: 1, 1: 2, 3: 7, 4: 8, 5: 9, 6: 10, 9: 39, 10: 11, 1023: 6}

// place is where in the memory an address of the world is.
func place(t *testing.T, address int) int {
	t.Helper()
	frame, ok := frames[address/64]
	if !ok {
		t.Fatalf("the address %d lies nowhere", address)
	}
	return 64*frame + address%64
}

// lay writes words at an address of the world.
func lay(t *testing.T, m Machine, address int, words ...uint32) {
	t.Helper()
	for k, w := range words {
		good(t, m.R.Store(place(t, address+4*k), 4, w))
	}
}

func encode(t *testing.T, i api.Instr) uint32 {
	t.Helper()
	w, e := isa.Encode(i)
	good(t, e)
	return w
}

func source(t *testing.T, text string) []uint32 {
	t.Helper()
	words, line, e := asm.Assemble(0, text)
	if e != api.OK {
		t.Fatalf("%q: the line %d: %v", text, line, e)
	}
	return words
}

// with is a state: a Pc, and registers, each with what it is.
func with(pc int, pairs ...uint32) api.Cpu {
	c := api.Cpu{Pc: pc}
	for k := 0; k < len(pairs); k += 2 {
		c.Regs[pairs[k]] = pairs[k+1]
	}
	return c
}

// full is a state none of whose registers is like another one.
func full(pc int) api.Cpu {
	c := api.Cpu{Pc: pc}
	for n := range c.Regs {
		c.Regs[n] = uint32(0x01010101*n + 0x80)
	}
	for n := range c.Sys {
		c.Sys[n] = uint32(0x00010001*n + 0x70)
	}
	return c
}

func image(t *testing.T, r *ram.Ram) []byte {
	t.Helper()
	var b []byte
	for n := range r.Frames() {
		f, e := r.Frame(n)
		good(t, e)
		b = append(b, f...)
	}
	return b
}

// virtual is all that is seen of virtual interrupts.
type virtual struct {
	all                    []api.Lr
	next                   int
	ok                     bool
	injected, acked, ended int
}

func seen(v *vgic.Vgic) (s virtual) {
	if v != nil {
		s.all = v.All()
		s.next, s.ok = v.Next()
		s.injected, s.acked, s.ended = v.Counts()
	}
	return s
}

func same(a, b virtual) bool {
	return slices.Equal(a.all, b.all) && a.next == b.next && a.ok == b.ok && a.injected == b.injected && a.acked == b.acked && a.ended == b.ended
}

// goes wants a step without a trap, and tells the memory that it was ahead of it.
func goes(t *testing.T, m Machine, c, want api.Cpu, what ...any) []byte {
	t.Helper()
	was := image(t, m.R)
	if d, trap := Step(m, c, vmid, root, 0); d != want || trap != (api.Trap{}) {
		t.Errorf("%v: Step = %v, %+v, want %v and no trap", what, d, trap, want)
	}
	return was
}

// still wants that the memory is what it was.
func still(t *testing.T, m Machine, was []byte, what ...any) {
	t.Helper()
	if !bytes.Equal(image(t, m.R), was) {
		t.Errorf("%v: the memory changed", what)
	}
}

// quiet is goes of what changes no memory.
func quiet(t *testing.T, m Machine, c, want api.Cpu, what ...any) {
	t.Helper()
	still(t, m, goes(t, m, c, want, what...), what...)
}

// traps wants a trap that leaves everything as it was, twice: the same step again traps the same.
func traps(t *testing.T, m Machine, c api.Cpu, want api.Trap, what ...any) {
	t.Helper()
	was, heard := image(t, m.R), seen(m.V)
	for range 2 {
		if d, trap := Step(m, c, vmid, root, 0); d != c || trap != want {
			t.Errorf("%v: Step = %v, %+v, want %v, %+v", what, d, trap, c, want)
		}
		still(t, m, was, what...)
		if now := seen(m.V); !same(now, heard) {
			t.Errorf("%v: the virtual interrupts are %+v, were %+v", what, now, heard)
		}
	}
}

// one is the world with an instruction at an address.
func one(t *testing.T, guest bool, pc int, i api.Instr) Machine {
	t.Helper()
	m := world(t, guest)
	lay(t, m, pc, encode(t, i))
	return m
}

func TestExamples(t *testing.T) {
	for _, guest := range kinds {
		m := world(t, guest)
		lay(t, m, 0, source(t, "movi r1, 300")...)
		quiet(t, m, api.Cpu{}, with(4, 1, 300), "movi")
		lay(t, m, 0, source(t, "ldr r2, [r1 + 0]")...)
		lay(t, m, 64, 0xcafe1234)
		quiet(t, m, with(0, 1, 64), with(4, 1, 64, 2, 0xcafe1234), "ldr")
		lay(t, m, 0, source(t, "str r2, [r1 + 0]")...)
		traps(t, m, with(0, 2, 77), api.Trap{Cause: api.TrapStore, Fault: api.Fault{Kind: api.FaultRights, Stage: 2, Level: 1}}, "str")
		lay(t, m, 0, source(t, "ldr r2, [r1 + 65535]")...)
		traps(t, m, with(0, 1, 3), api.Trap{Cause: api.TrapAlign, Addr: 2}, "ldr at 2")
	}
	m := world(t, false)
	lay(t, m, 0, source(t, "hvc 3")...)
	traps(t, m, api.Cpu{}, api.Trap{Cause: api.TrapUndef, Num: 0x11000003}, "hvc")
}

// words are ordinary ones, and those at the edges of what a word, a half of it, an address and a shift are.
var words = []uint32{0, 1, 2, 3, 4, 5, 31, 32, 33, 63, 64, 65, 300, 0x7fff, 0x8000, 0xfffc, 0xffff, 0x10000, 0x10001, 0x12345678, 0x55555555, 0xaaaaaaaa, 0x7fffffff, 0x80000000, 0x80000001, 0xfffffffe, 0xffffffff}

func TestC1Movi(t *testing.T) {
	for _, guest := range kinds {
		for a := range 16 {
			for _, n := range []int{0, 1, 300, 32767, 32768, 65535} {
				want := full(4)
				want.Regs[a] = uint32(n)
				quiet(t, one(t, guest, 0, api.Instr{Op: api.OpMovi, A: a, Imm: n}), full(0), want, "movi", a, n)
			}
		}
	}
}

// modulo is what a number is in 32 bits.
func modulo(n int) uint32 {
	const many = 1 << 32
	return uint32((n%many + many) % many)
}

// sums tells what the operations of three registers come to; bits are told one by one, and a shift is done by doubling.
var sums = map[int]func(b, c uint32) uint32{
	api.OpAdd: func(b, c uint32) uint32 { return modulo(int(b) + int(c)) },
	api.OpSub: func(b, c uint32) uint32 { return modulo(int(b) - int(c)) },
	api.OpAnd: func(b, c uint32) uint32 {
		return each(b, c, func(x, y uint32) bool { return x == 1 && y == 1 })
	},
	api.OpXor: func(b, c uint32) uint32 { return each(b, c, func(x, y uint32) bool { return x+y == 1 }) },
	api.OpShl: func(b, c uint32) uint32 {
		for range c % 32 {
			b = modulo(2 * int(b))
		}
		return b
	},
}

func each(b, c uint32, on func(x, y uint32) bool) (w uint32) {
	for k := range 32 {
		if on(b>>k&1, c>>k&1) {
			w += 1 << k
		}
	}
	return w
}

func TestC1Sums(t *testing.T) {
	for op, sum := range sums {
		for _, guest := range kinds {
			m := one(t, guest, 0, api.Instr{Op: op, A: 3, B: 7, C: 12})
			for _, b := range words {
				for _, c := range words {
					state := full(0)
					state.Regs[7], state.Regs[12] = b, c
					want := state
					want.Pc, want.Regs[3] = 4, sum(b, c)
					quiet(t, m, state, want, "operation", op, b, c)
				}
			}
		}
	}
}

// TestC1SumsByHand is what the edges are, in numbers.
func TestC1SumsByHand(t *testing.T) {
	for _, x := range []struct {
		op      int
		b, c, a uint32
	}{
		{api.OpAdd, 2, 3, 5}, {api.OpAdd, 0xffffffff, 1, 0}, {api.OpAdd, 0xffffffff, 0xffffffff, 0xfffffffe}, {api.OpAdd, 0x80000000, 0x80000000, 0},
		{api.OpSub, 7, 3, 4}, {api.OpSub, 3, 7, 0xfffffffc}, {api.OpSub, 0, 1, 0xffffffff}, {api.OpSub, 5, 5, 0},
		{api.OpAnd, 12, 10, 8}, {api.OpXor, 12, 10, 6}, {api.OpXor, 0xffffffff, 0x0f0f0f0f, 0xf0f0f0f0},
		{api.OpShl, 1, 0, 1}, {api.OpShl, 3, 4, 48}, {api.OpShl, 1, 31, 0x80000000}, {api.OpShl, 3, 31, 0x80000000}, {api.OpShl, 3, 32, 3}, {api.OpShl, 3, 33, 6}, {api.OpShl, 0x80000001, 1, 2}, {api.OpShl, 1, 0xffffffff, 0x80000000}, {api.OpShl, 9, 0x80000000, 9},
	} {
		for _, guest := range kinds {
			quiet(t, one(t, guest, 0, api.Instr{Op: x.op, A: 1, B: 2, C: 3}), with(0, 2, x.b, 3, x.c), with(4, 1, x.a, 2, x.b, 3, x.c), "operation", x.op)
		}
	}
}

// TestC1SumsOfOneRegister has each register be all three, and the one that is written one of the two that are read.
func TestC1SumsOfOneRegister(t *testing.T) {
	for op, sum := range sums {
		for r := range 16 {
			other := (r + 5) % 16
			for _, i := range []api.Instr{{Op: op, A: r, B: r, C: r}, {Op: op, A: r, B: r, C: other}, {Op: op, A: r, B: other, C: r}, {Op: op, A: other, B: r, C: r}} {
				c := full(0)
				want := c
				want.Pc = 4
				want.Regs[i.A] = sum(c.Regs[i.B], c.Regs[i.C])
				quiet(t, one(t, r%2 == 0, 0, i), c, want, i)
			}
		}
	}
}

// TestC1Loads reads at each address of the pages that may be read: ldrb anywhere, ldr at multiples of 4.
func TestC1Loads(t *testing.T) {
	for _, guest := range kinds {
		word, byt := one(t, guest, 0, api.Instr{Op: api.OpLdr, A: 2, B: 1, Imm: 8}), one(t, guest, 0, api.Instr{Op: api.OpLdrb, A: 2, B: 1, Imm: 8})
		for _, page := range []int{1, 3, 9, 10, 1023} {
			for k := range 64 {
				good(t, word.R.Store(place(t, 64*page+k), 1, uint32(page+3*k)), byt.R.Store(place(t, 64*page+k), 1, uint32(page+3*k)))
			}
			for k := range 64 {
				a := 64*page + k
				at := func(k int) uint32 { return uint32(page+3*k) % 256 }
				base := modulo(a - 8)
				quiet(t, byt, with(0, 1, base, 2, 0xffffffff), with(4, 1, base, 2, at(k)), "ldrb", a)
				if k%4 != 0 {
					traps(t, word, with(0, 1, base, 2, 0xffffffff), api.Trap{Cause: api.TrapAlign, Addr: a}, "ldr", a)
					continue
				}
				quiet(t, word, with(0, 1, base, 2, 0xffffffff), with(4, 1, base, 2, at(k)+at(k+1)<<8+at(k+2)<<16+at(k+3)<<24), "ldr", a)
			}
		}
	}
}

// TestC1Stores writes at each address of the pages that may be written, and looks which bytes are others then.
func TestC1Stores(t *testing.T) {
	for _, guest := range kinds {
		word, byt := one(t, guest, 0, api.Instr{Op: api.OpStr, A: 2, B: 1, Imm: 65000}), one(t, guest, 0, api.Instr{Op: api.OpStrb, A: 2, B: 1, Imm: 65000})
		for _, page := range []int{1, 4, 9, 10, 1023} {
			for k := range 64 {
				a := 64*page + k
				base, w := modulo(a-65000), uint32(0x91a2b3c4+0x01010101*k)
				was := goes(t, byt, with(0, 1, base, 2, w), with(4, 1, base, 2, w), "strb", a)
				was[place(t, a)] = byte(w)
				still(t, byt, was, "strb", a)
				if k%4 != 0 {
					traps(t, word, with(0, 1, base, 2, w), api.Trap{Cause: api.TrapAlign, Addr: a}, "str", a)
					continue
				}
				was = goes(t, word, with(0, 1, base, 2, w), with(4, 1, base, 2, w), "str", a)
				for n := range 4 {
					was[place(t, a)+n] = byte(w >> (8 * n))
				}
				still(t, word, was, "str", a)
			}
		}
	}
}

// TestC1AddressesGoRound has sums that are no address till all but 16 bits are cut off.
func TestC1AddressesGoRound(t *testing.T) {
	for _, x := range []struct {
		b    uint32
		n, a int
	}{{64, 0, 64}, {0, 64, 64}, {65535, 65, 64}, {65, 65535, 64}, {0xffffffff, 65, 64}, {0xffffffc0, 128, 64}, {0x10000, 64, 64}, {0xffff0000, 64, 64}, {0x12340040, 0, 64}, {0xffff0001, 65535, 0}, {0xffffffff, 65533, 65532}, {0xfffffffc, 0, 65532}, {65535, 65533, 65532}, {0x80000000, 65532, 65532}} {
		for _, guest := range kinds {
			m := one(t, guest, 0, api.Instr{Op: api.OpLdr, A: 2, B: 1, Imm: x.n})
			if x.a != 0 {
				lay(t, m, x.a, 0xabcdef01)
			}
			w, e := m.R.Load(place(t, x.a), 4)
			good(t, e)
			quiet(t, m, with(0, 1, x.b), with(4, 1, x.b, 2, w), "ldr", x)
			lay(t, m, 0, encode(t, api.Instr{Op: api.OpLdrb, A: 2, B: 1, Imm: x.n}))
			w, e = m.R.Load(place(t, x.a), 1)
			good(t, e)
			quiet(t, m, with(0, 1, x.b), with(4, 1, x.b, 2, w), "ldrb", x)
			if x.a == 0 {
				continue
			}
			for _, op := range []int{api.OpStr, api.OpStrb} {
				lay(t, m, 0, encode(t, api.Instr{Op: op, A: 2, B: 1, Imm: x.n}))
				was := goes(t, m, with(0, 1, x.b, 2, 0x0a0b0c0d), with(4, 1, x.b, 2, 0x0a0b0c0d), op, x)
				at := place(t, x.a)
				copy(was[at:], []byte{0x0d})
				if op == api.OpStr {
					copy(was[at:], []byte{0x0d, 0x0c, 0x0b, 0x0a})
				}
				still(t, m, was, op, x)
			}
		}
	}
}

// TestC1MovesOfOneRegister has the register of the address be the one that is read into, and written from.
func TestC1MovesOfOneRegister(t *testing.T) {
	for r := range 16 {
		for _, guest := range kinds {
			m := one(t, guest, 0, api.Instr{Op: api.OpLdr, A: r, B: r, Imm: 4})
			lay(t, m, 68, 99)
			n := uint32(r)
			quiet(t, m, with(0, n, 64), with(4, n, 99), "ldr", r)
			lay(t, m, 0, encode(t, api.Instr{Op: api.OpStr, A: r, B: r, Imm: 4}))
			was := goes(t, m, with(0, n, 64), with(4, n, 64), "str", r)
			was[place(t, 68)] = 64
			still(t, m, was, "str", r)
		}
	}
}

// TestC1CodeIsMemory stores a word, and does it then.
func TestC1CodeIsMemory(t *testing.T) {
	for _, guest := range kinds {
		m := world(t, guest)
		lay(t, m, 640, encode(t, api.Instr{Op: api.OpStr, A: 1, B: 0, Imm: 644}), encode(t, api.Instr{Op: api.OpNop}))
		w := encode(t, api.Instr{Op: api.OpMovi, A: 5, Imm: 55})
		goes(t, m, with(640, 1, w), with(644, 1, w), "str")
		quiet(t, m, with(644, 1, w), with(648, 1, w, 5, 55), "what was stored")
	}
}

func TestC1Branches(t *testing.T) {
	taken := map[int]func(a, b uint32) bool{
		api.OpBeq: func(a, b uint32) bool { return a == b },
		api.OpBne: func(a, b uint32) bool { return a != b },
		api.OpBlt: func(a, b uint32) bool { return int(a)-int(b) < 0 },
	}
	for op, holds := range taken {
		for _, guest := range kinds {
			for _, to := range []int{0, 4, 7, 65532, 65535} {
				for _, pc := range []int{0, 60, 65532} {
					m := one(t, guest, pc, api.Instr{Op: op, A: 1, B: 2, Imm: to})
					for _, a := range words[len(words)-9:] {
						for _, b := range words[len(words)-9:] {
							want := with((pc+4)%65536, 1, a, 2, b)
							if holds(a, b) {
								want.Pc = to
							}
							quiet(t, m, with(pc, 1, a, 2, b), want, "branch", op, a, b, to)
						}
					}
				}
			}
		}
	}
}

func TestC1BranchesByHand(t *testing.T) {
	for _, x := range []struct {
		op   int
		a, b uint32
		to   int
	}{
		{api.OpBeq, 5, 5, 40}, {api.OpBeq, 5, 6, 4}, {api.OpBne, 5, 5, 4}, {api.OpBne, 5, 6, 40},
		{api.OpBlt, 5, 6, 40}, {api.OpBlt, 5, 5, 4}, {api.OpBlt, 6, 5, 4},
		{api.OpBlt, 1, 0x80000000, 40}, {api.OpBlt, 0xffffffff, 0, 4}, {api.OpBlt, 0, 0xffffffff, 40}, {api.OpBlt, 0x7fffffff, 0x80000000, 40},
		{api.OpBeq, 0x10005, 5, 4}, {api.OpBne, 0x10005, 5, 40},
	} {
		for _, guest := range kinds {
			quiet(t, one(t, guest, 0, api.Instr{Op: x.op, A: 8, B: 9, Imm: 40}), with(0, 8, x.a, 9, x.b), with(x.to, 8, x.a, 9, x.b), x)
			if x.a == x.b {
				quiet(t, one(t, guest, 0, api.Instr{Op: x.op, A: 8, B: 8, Imm: 40}), with(0, 8, x.a), with(x.to, 8, x.a), x)
			}
		}
	}
}

func TestC1Jumps(t *testing.T) {
	for _, guest := range kinds {
		for _, pc := range []int{0, 4, 60, 640, 65472, 65528, 65532} {
			for _, to := range []int{0, 1, 2, 3, 4, 64, pc, 32768, 65532, 65533, 65535} {
				back := uint32((pc + 4) % 65536)
				want := full(to)
				quiet(t, one(t, guest, pc, api.Instr{Op: api.OpJmp, Imm: to}), full(pc), want, "jmp", pc, to)
				for _, a := range []int{0, 9, 15} {
					want := full(to)
					want.Regs[a] = back
					quiet(t, one(t, guest, pc, api.Instr{Op: api.OpJal, A: a, Imm: to}), full(pc), want, "jal", pc, to)
				}
				for _, high := range []uint32{0, 1, 0x7fff, 0x8000, 0xffff} {
					b := high<<16 + uint32(to)
					quiet(t, one(t, guest, pc, api.Instr{Op: api.OpJr, B: 6}), with(pc, 6, b), with(to, 6, b), "jr", pc, b)
				}
			}
		}
	}
}

func TestC1GoesOn(t *testing.T) {
	for _, guest := range kinds {
		for _, pc := range []int{0, 4, 32, 60, 65472, 65528, 65532} {
			quiet(t, one(t, guest, pc, api.Instr{Op: api.OpNop}), full(pc), full((pc+4)%65536), "nop", pc)
			want := full((pc + 4) % 65536)
			want.Regs[4] = 6
			quiet(t, one(t, guest, pc, api.Instr{Op: api.OpMovi, A: 4, Imm: 6}), full(pc), want, "movi", pc)
		}
	}
}

func TestC1Pc(t *testing.T) {
	wrong := append([]int{1, 2, 3, 5, 6, 7, 62, 63, 65533, 65534, 65535, 65536, 65537, 65540, 1<<16 + 64, -3, -4, -60, -65532, -65536, 1<<32 + 4, math.MaxInt - 3, math.MinInt + 4}, farNumbers...)
	for _, guest := range kinds {
		m := world(t, guest)
		lay(t, m, 0, encode(t, api.Instr{Op: api.OpMovi, A: 1, Imm: 1}))
		lay(t, m, 65532, encode(t, api.Instr{Op: api.OpMovi, A: 1, Imm: 2}))
		for _, pc := range wrong {
			if pc != 1024 {
				traps(t, m, full(pc), api.Trap{Cause: api.TrapAlign, Addr: pc}, "Pc", pc)
			}
		}
		if found, missed := m.T.Counts(); found != 0 || missed != 0 {
			t.Errorf("a Pc that is none was looked for: %d, %d", found, missed)
		}
		want := full(0)
		want.Regs[1] = 2
		quiet(t, m, full(65532), want, "Pc 65532")
	}
}

// missing tells what is wrong with the pages of the world, by what is wanted there.
func missing(page, want int) api.Fault {
	size := api.Fault{Kind: api.FaultSize}
	gone := func(kind, level int) api.Fault { return api.Fault{Kind: kind, Stage: 2, Level: level, Page: page} }
	has := func(rights int) api.Fault {
		if rights&want != 0 {
			return api.Fault{}
		}
		return gone(api.FaultRights, 1)
	}
	switch page {
	case 0:
		return has(api.Read | api.Exec)
	case 1:
		return has(api.Read | api.Write)
	case 3:
		return has(api.Read)
	case 4:
		return has(api.Write)
	case 5:
		return has(api.Exec)
	case 6:
		return has(0)
	case 7, 8:
		return size
	case 9, 10, 1023:
		return api.Fault{}
	case 64, 95:
		return gone(api.FaultSize, 1)
	case 32, 63, 96, 127, 128, 991:
		return gone(api.FaultMissing, 0)
	}
	return gone(api.FaultMissing, 1)
}

var pages = []int{0, 1, 2, 3, 4, 5, 6, 7, 8, 9, 10, 11, 12, 13, 31, 32, 63, 64, 95, 96, 127, 128, 991, 992, 1022, 1023}

func TestC1Fetch(t *testing.T) {
	for _, guest := range kinds {
		for _, page := range pages {
			for _, k := range []int{0, 4, 60} {
				m := world(t, guest)
				pc := 64*page + k
				if frames[page] != 0 {
					lay(t, m, pc, encode(t, api.Instr{Op: api.OpMovi, A: 0, Imm: 9}))
				}
				f := missing(page, api.Exec)
				if f.Kind != api.FaultNone {
					traps(t, m, full(pc), api.Trap{Cause: api.TrapFetch, Addr: pc, Fault: f}, "fetch", pc)
					continue
				}
				want := full((pc + 4) % 65536)
				want.Regs[0] = 9
				quiet(t, m, full(pc), want, "fetch", pc)
			}
		}
	}
}

func TestC1LoadAndStoreFaults(t *testing.T) {
	for _, x := range []struct{ op, want, cause int }{{api.OpLdr, api.Read, api.TrapLoad}, {api.OpLdrb, api.Read, api.TrapLoad}, {api.OpStr, api.Write, api.TrapStore}, {api.OpStrb, api.Write, api.TrapStore}} {
		for _, guest := range kinds {
			for _, page := range pages {
				for _, k := range []int{0, 4, 5, 63} {
					m := one(t, guest, 0, api.Instr{Op: x.op, A: 2, B: 1})
					a, f := 64*page+k, missing(page, x.want)
					c := with(0, 1, uint32(a), 2, 0xdeadbeef)
					switch {
					case k%4 != 0 && (x.op == api.OpLdr || x.op == api.OpStr):
						traps(t, m, c, api.Trap{Cause: api.TrapAlign, Addr: a}, x, a)
					case f.Kind != api.FaultNone:
						traps(t, m, c, api.Trap{Cause: x.cause, Addr: a, Fault: f}, x, a)
					default:
						if _, trap := Step(m, c, vmid, root, 0); trap != (api.Trap{}) {
							t.Errorf("%v at %d: %+v", x, a, trap)
						}
					}
				}
			}
		}
	}
}

// TestC1TableThatIsNotThere has a number of the space's table that the memory does not have.
func TestC1TableThatIsNotThere(t *testing.T) {
	for _, guest := range kinds {
		m := one(t, guest, 0, api.Instr{Op: api.OpNop})
		for _, second := range append([]int{40, 41, 1023}, farNumbers...) {
			want := api.Trap{Cause: api.TrapFetch, Addr: 64, Fault: api.Fault{Kind: api.FaultSize, Stage: 2, Page: 1}}
			if c, trap := Step(m, full(64), vmid, second, 0); c != full(64) || trap != want {
				t.Errorf("with the table %d: %v, %+v, want %+v", second, c, trap, want)
			}
		}
		// A frame of noughts is a table without entries.
		want := api.Trap{Cause: api.TrapFetch, Fault: api.Fault{Kind: api.FaultMissing, Stage: 2}}
		if c, trap := Step(m, full(0), vmid, 20, 0); c != full(0) || trap != want {
			t.Errorf("with an empty table: %v, %+v, want %+v", c, trap, want)
		}
	}
}

// TestC1NoInstruction goes over each operation's number, right and not, with bits in each part of the word.
func TestC1NoInstruction(t *testing.T) {
	none := 0
	for _, guest := range kinds {
		m := world(t, guest)
		for op := range 256 {
			for _, low := range []uint32{0, 1, 15, 16, 0x8000, 0xffff, 0x10000, 0xf0000, 0x100000, 0xf00000, 0xffffff} {
				w := uint32(op)<<24 + low
				if _, e := isa.Decode(w); e == api.OK {
					continue
				}
				none++
				for _, pc := range []int{0, 60, 65532} {
					lay(t, m, pc, w)
					traps(t, m, full(pc), api.Trap{Cause: api.TrapUndef, Num: int(w), Addr: pc}, "word", w)
				}
			}
		}
	}
	if none < 2*11*230 {
		t.Errorf("only %d words are no instruction", none)
	}
}

// guests are the operations that a thread does not have.
var guests = []api.Instr{{Op: api.OpHvc, Imm: 3}, {Op: api.OpHvc, Imm: 65535}, {Op: api.OpMrs, A: 2, Imm: 0}, {Op: api.OpMrs, A: 2, Imm: 7}, {Op: api.OpMsr, B: 2, Imm: 0}, {Op: api.OpMsr, B: 2, Imm: 2}, {Op: api.OpMsr, B: 2, Imm: 6}, {Op: api.OpIar, A: 2}, {Op: api.OpEoi, B: 2}, {Op: api.OpTlbi}}

func TestC1GuestsAlone(t *testing.T) {
	for _, i := range guests {
		for _, pc := range []int{0, 60, 65532} {
			m := one(t, false, pc, i)
			good(t, m.T.Fill(5, api.Line{Vmid: vmid, Page: 10, Frame: 11, Rights: all}))
			traps(t, m, full(pc), api.Trap{Cause: api.TrapUndef, Num: int(encode(t, i)), Addr: pc}, i)
			if _, _, ok := m.T.Find(vmid, 0, 10); !ok {
				t.Errorf("%v: the buffer forgot", i)
			}
		}
	}
}

func TestC1Calls(t *testing.T) {
	for _, n := range []int{0, 1, 7, 255, 32768, 65535} {
		for _, pc := range []int{0, 60, 65532} {
			for _, guest := range kinds {
				traps(t, one(t, guest, pc, api.Instr{Op: api.OpSvc, Imm: n}), full(pc), api.Trap{Cause: api.TrapSvc, Num: n, Addr: pc}, "svc", n)
			}
			traps(t, one(t, true, pc, api.Instr{Op: api.OpHvc, Imm: n}), full(pc), api.Trap{Cause: api.TrapHvc, Num: n, Addr: pc}, "hvc", n)
		}
	}
}

var systemNumbers = []int{0, 1, 2, 3, 4, 5, 6, 7, 8, 9, 10, 13, 14, 16, 255, 256, 258, 32768, 65535}

func TestC1ReadSystem(t *testing.T) {
	for _, n := range systemNumbers {
		for a := range 16 {
			m := one(t, true, 60, api.Instr{Op: api.OpMrs, A: a, Imm: n})
			if n > 6 {
				traps(t, m, full(60), api.Trap{Cause: api.TrapSys, Num: n, Addr: 60}, "mrs", n)
				continue
			}
			m = one(t, true, 0, api.Instr{Op: api.OpMrs, A: a, Imm: n})
			c := full(0)
			want := full(4)
			want.Regs[a] = c.Sys[n]
			quiet(t, m, c, want, "mrs", a, n)
		}
	}
}

func TestC1WriteSystem(t *testing.T) {
	for _, n := range systemNumbers {
		for b := range 16 {
			m := one(t, true, 60, api.Instr{Op: api.OpMsr, B: b, Imm: n})
			if n > 5 {
				traps(t, m, full(60), api.Trap{Cause: api.TrapSys, Num: n, Addr: 60}, "msr", n)
				continue
			}
			m = one(t, true, 0, api.Instr{Op: api.OpMsr, B: b, Imm: n})
			for _, w := range words {
				c := full(0)
				c.Regs[b] = w
				want := c
				want.Pc, want.Sys[n] = 4, w
				quiet(t, m, c, want, "msr", b, n, w)
			}
		}
	}
}

// heard tells the mask by what may be heard: the least priority that is not. None must be pending or active.
func heard(t *testing.T, m Machine) int {
	t.Helper()
	for p := range 256 {
		good(t, m.V.Inject(1, p, false))
		if m.V.Ack() != 1 {
			return p
		}
		_, e := m.V.End(1)
		good(t, e)
	}
	return 256
}

func TestC1Mask(t *testing.T) {
	for _, w := range []uint32{0, 1, 2, 10, 127, 128, 254, 255, 256, 257, 258, 300, 511, 512, 513, 517, 1024, 0x10000, 0x10005, 0x7fffffff, 0x80000000, 0x80000005, 0xfffffffe, 0xffffffff} {
		m := one(t, true, 0, api.Instr{Op: api.OpMsr, B: 3, Imm: api.SysMask})
		want := with(4, 3, w)
		want.Sys[api.SysMask] = w
		quiet(t, m, with(0, 3, w), want, "msr of the mask", w)
		if got := heard(t, m); got != int(min(uint64(w), 256)) {
			t.Errorf("msr of the mask %d: the virtual interrupts have %d", w, got)
		}
	}
}

// TestC1MaskIsSetByItsRegisterAlone has the other registers written, and the mask's one refused or read.
func TestC1MaskIsSetByItsRegisterAlone(t *testing.T) {
	for _, i := range []api.Instr{{Op: api.OpMsr, B: 3, Imm: 0}, {Op: api.OpMsr, B: 3, Imm: 1}, {Op: api.OpMsr, B: 3, Imm: 3}, {Op: api.OpMsr, B: 3, Imm: 4}, {Op: api.OpMsr, B: 3, Imm: 5}, {Op: api.OpMsr, B: 3, Imm: 6}, {Op: api.OpMsr, B: 3, Imm: 7}, {Op: api.OpMsr, B: 3, Imm: 258}, {Op: api.OpMrs, A: 3, Imm: 2}, {Op: api.OpNop}, {Op: api.OpTlbi}} {
		m := one(t, true, 0, i)
		good(t, m.V.SetMask(100))
		c := with(0, 3, 7)
		c.Sys[api.SysMask] = 9
		Step(m, c, vmid, root, 0)
		if got := heard(t, m); got != 100 {
			t.Errorf("%v: the mask is %d, was 100", i, got)
		}
	}
}

func TestC1Wait(t *testing.T) {
	trap := api.Trap{Cause: api.TrapWfi, Addr: 60}
	wfi := api.Instr{Op: api.OpWfi}
	traps(t, one(t, false, 60, wfi), full(60), trap, "a thread")
	traps(t, one(t, true, 60, wfi), full(60), trap, "none is pending")
	for name, deaf := range map[string]func(m Machine){
		"disabled":   func(m Machine) { good(t, m.V.Inject(9, 3, false), m.V.Enable(9, false)) },
		"masked":     func(m Machine) { good(t, m.V.Inject(9, 3, false), m.V.SetMask(3)) },
		"active":     func(m Machine) { good(t, m.V.Inject(9, 3, true)); m.V.Ack() },
		"below that": func(m Machine) { good(t, m.V.Inject(9, 3, true)); m.V.Ack(); good(t, m.V.Inject(8, 3, false)) },
		"both":       func(m Machine) { good(t, m.V.Inject(9, 3, true)); m.V.Ack(); good(t, m.V.Inject(9, 2, false)) },
	} {
		m := one(t, true, 60, wfi)
		deaf(m)
		traps(t, m, full(60), trap, name)
	}
	for _, id := range []int{0, 1, 63} {
		m := one(t, true, 0, wfi)
		good(t, m.V.Inject(id, 255, true))
		was := seen(m.V)
		quiet(t, m, full(0), full(4), "one is heard", id)
		if now := seen(m.V); !same(now, was) {
			t.Errorf("wfi changed the virtual interrupts: %+v, were %+v", now, was)
		}
	}
}

// TestC1Acknowledge has iar tell what Ack tells of a controller to which the same was done.
func TestC1Acknowledge(t *testing.T) {
	for a := range 16 {
		m, twin := one(t, true, 0, api.Instr{Op: api.OpIar, A: a}), world(t, true).V
		for _, v := range []*vgic.Vgic{m.V, twin} {
			good(t, v.Inject(7, 20, true), v.Inject(0, 20, false), v.Inject(63, 10, false), v.Inject(5, 30, true))
		}
		for range 6 {
			want := full(4)
			want.Regs[a] = uint32(twin.Ack())
			quiet(t, m, full(0), want, "iar", a)
			if x, y := seen(m.V), seen(twin); !same(x, y) {
				t.Fatalf("iar: %+v, Ack: %+v", x, y)
			}
			for _, v := range []*vgic.Vgic{m.V, twin} {
				v.End(int(want.Regs[a]))
			}
		}
	}
	quiet(t, one(t, true, 0, api.Instr{Op: api.OpIar, A: 4}), with(0, 4, 5), with(4, 4, 1023), "iar of none")
}

// ending is the world with an eoi of the register 2, and an interrupt that is active, another one that waits.
func ending(t *testing.T, pc, id int, level bool) Machine {
	t.Helper()
	m := one(t, true, pc, api.Instr{Op: api.OpEoi, B: 2})
	good(t, m.V.Inject(id, 3, level))
	if got := m.V.Ack(); got != id {
		t.Fatalf("Ack = %d, want %d", got, id)
	}
	good(t, m.V.Inject((id+1)%64, 9, !level))
	return m
}

func TestC1End(t *testing.T) {
	for id := range 64 {
		for _, level := range kinds {
			for _, pc := range []int{0, 60, 65532} {
				m, twin := ending(t, pc, id, level), ending(t, pc, id, level).V
				flag, e := twin.End(id)
				good(t, e)
				var trap api.Trap
				if flag {
					trap = api.Trap{Cause: api.TrapMaint, Num: id, Addr: pc}
				}
				c := full(pc)
				c.Regs[2] = uint32(id)
				want := c
				want.Pc = (pc + 4) % 65536
				was := image(t, m.R)
				if d, got := Step(m, c, vmid, root, 0); d != want || got != trap {
					t.Errorf("eoi of %d, level %v: %v, %+v, want %v, %+v", id, level, d, got, want, trap)
				}
				still(t, m, was, "eoi")
				if x, y := seen(m.V), seen(twin); !same(x, y) {
					t.Errorf("eoi of %d: %+v, End: %+v", id, x, y)
				}
				// It is ended: the same again is an error of End's, which is nothing.
				quiet(t, m, c, want, "eoi again", id)
			}
		}
	}
}

// TestC1EndOfNone has numbers that are no active interrupt's, some of which would be that one's if they were cut to fewer bits.
func TestC1EndOfNone(t *testing.T) {
	for _, id := range []int{0, 5, 63} {
		for _, w := range []uint32{1, 2, 6, 62, 64, 65, 69, 127, 128, 255, 256, 261, 1023, 1024, 0x10000, 0x10005, 0x1003f, 0x7fffffff, 0x80000000, 0x80000005, 0x8000003f, 0xffffffc0, 0xffffffc5, 0xffffffff} {
			m := ending(t, 0, id, true)
			was := seen(m.V)
			quiet(t, m, with(0, 2, w), with(4, 2, w), "eoi", w, "while active is", id)
			if now := seen(m.V); !same(now, was) {
				t.Errorf("eoi of %d: %+v, was %+v", w, now, was)
			}
		}
	}
}

func TestC1Space(t *testing.T) {
	thread, guest := world(t, false), world(t, true)
	for _, number := range append([]int{0, 1, 2, 15, 16}, farNumbers...) {
		for _, second := range append([]int{0, 1, 3, 39, 40, 1023}, farNumbers...) {
			for _, tab := range []uint32{0, 1, 5, 1023, 1024, 1029, 0x3fffffff, 0x40000005, 0x7fffffff, 0x80000000, 0x80000001, 0x80000005, 0x800003ff, 0x80000400, 0x80000405, 0xc0000007, 0xffffffff} {
				for _, asid := range []uint32{0, 1, 2, 15, 16, 18, 31, 0x80000003, 0xffffffff} {
					c := full(0)
					c.Sys[api.SysTable], c.Sys[api.SysAsid] = tab, asid
					plain := api.Space{Vmid: number, First: -1, Second: second}
					if s := Space(thread, c, number, second); s != plain {
						t.Fatalf("Space of a thread, %d, %d, %x, %x = %+v, want %+v", number, second, tab, asid, s, plain)
					}
					want := plain
					if tab >= 1<<31 {
						want.First, want.Asid = int(tab%1024), int(asid%16)
					}
					if s := Space(guest, c, number, second); s != want {
						t.Fatalf("Space of a guest, %d, %d, %x, %x = %+v, want %+v", number, second, tab, asid, s, want)
					}
				}
			}
		}
	}
}

// nothingButThese is what a buffer has: each line in its entry.
func nothingButThese(t *testing.T, b *tlb.Tlb, want map[int]api.Line, what ...any) {
	t.Helper()
	for at, l := range b.Lines() {
		if l != want[at] {
			t.Errorf("%v: the entry %d has %+v, want %+v", what, at, l, want[at])
		}
	}
}

func TestC1Flush(t *testing.T) {
	others := map[int]api.Line{2: {Vmid: 2, Asid: 5, Page: 1, Frame: 2, Rights: 3}, 3: {Vmid: 1, Asid: 4, Page: 1, Frame: 2, Rights: 3}, 6: {Vmid: 2, Page: 0, Frame: 1, Rights: 5}}
	mine := map[int]api.Line{0: {Vmid: 1, Asid: 5, Page: 1, Frame: 2, Rights: 3}, 4: {Vmid: 1, Asid: 5, Page: 0, Frame: 1, Rights: 5}}
	noughts := map[int]api.Line{1: {Vmid: 1, Page: 0, Frame: 1, Rights: 5}, 7: {Vmid: 1, Page: 10, Frame: 11, Rights: all}}
	for _, own := range kinds {
		for _, at := range []int{-1, 5, 8} {
			m := one(t, true, 0, api.Instr{Op: api.OpTlbi})
			ownTables(t, m)
			for _, part := range []map[int]api.Line{others, mine, noughts} {
				for n, l := range part {
					good(t, m.T.Fill(n, l))
				}
			}
			c := full(0)
			c.Sys[api.SysTable], c.Sys[api.SysAsid] = 10, 16+5
			want := map[int]api.Line{}
			stay := mine
			if own {
				c.Sys[api.SysTable] += 1 << 31
				stay = noughts
			}
			for _, part := range []map[int]api.Line{others, stay} {
				for n, l := range part {
					want[n] = l
				}
			}
			d, trap := Step(m, c, vmid, root, at)
			c.Pc = 4
			if d != c || trap != (api.Trap{}) {
				t.Errorf("tlbi: %v, %+v", d, trap)
			}
			nothingButThese(t, m.T, want, "tlbi", own, at)
		}
	}
}

// ownTables lays a guest's tables into the world: its root is its page 10 (the frame 11), the next one its page 3 (the frame 7).
// Its pages: 0 is 0 with all rights, 1 is 1 with read, 2 is 1 with write, 3 is none, 4 is 9 with all rights, 5 is 2, which is none,
// 6 is 7, which is not there, 7 is 3 with all rights; 1023 is none.
func ownTables(t *testing.T, m Machine) {
	t.Helper()
	good(t, pte.Put(m.R, 11, 0, table(3)))
	for page, l := range map[int]api.Entry{0: leaf(0, all), 1: leaf(1, api.Read), 2: leaf(1, api.Write), 4: leaf(9, all), 5: leaf(2, all), 6: leaf(7, all), 7: leaf(3, all)} {
		good(t, pte.Put(m.R, 7, page, l))
	}
}

func TestC1OwnTables(t *testing.T) {
	stage := func(kind, stage, level, page int) api.Fault {
		return api.Fault{Kind: kind, Stage: stage, Level: level, Page: page}
	}
	for _, x := range []struct {
		op, a, frame int
		f            api.Fault
	}{
		{api.OpLdr, 64, 2, api.Fault{}},
		{api.OpStr, 64, 0, stage(api.FaultRights, 1, 1, 1)},
		{api.OpLdr, 128, 0, stage(api.FaultRights, 1, 1, 2)},
		{api.OpStr, 128, 2, api.Fault{}},
		{api.OpLdr, 192, 0, stage(api.FaultMissing, 1, 1, 3)},
		{api.OpLdr, 256, 39, api.Fault{}},
		{api.OpStr, 256 + 60, 39, api.Fault{}},
		{api.OpLdr, 320, 0, stage(api.FaultMissing, 2, 1, 2)},
		{api.OpStr, 320, 0, stage(api.FaultMissing, 2, 1, 2)},
		{api.OpLdr, 384, 0, api.Fault{Kind: api.FaultSize}},
		{api.OpStr, 384, 0, api.Fault{Kind: api.FaultSize}},
		{api.OpLdr, 448, 7, api.Fault{}},
		{api.OpStr, 448, 0, stage(api.FaultRights, 2, 1, 3)},
		{api.OpStr, 0, 0, stage(api.FaultRights, 2, 1, 0)},
		{api.OpLdr, 65532, 0, stage(api.FaultMissing, 1, 0, 1023)},
	} {
		m := one(t, true, 0, api.Instr{Op: x.op, A: 2, B: 1})
		ownTables(t, m)
		c := with(0, 1, uint32(x.a), 2, 0x11223344)
		c.Sys[api.SysTable] = 1<<31 + 10
		want := c
		want.Pc = 4
		at := 64*x.frame + x.a%64
		switch {
		case x.f.Kind != api.FaultNone && x.op == api.OpLdr:
			traps(t, m, c, api.Trap{Cause: api.TrapLoad, Addr: x.a, Fault: x.f}, x)
		case x.f.Kind != api.FaultNone:
			traps(t, m, c, api.Trap{Cause: api.TrapStore, Addr: x.a, Fault: x.f}, x)
		case x.op == api.OpLdr:
			w, e := m.R.Load(at, 4)
			good(t, e)
			want.Regs[2] = w
			quiet(t, m, c, want, x)
		default:
			was := goes(t, m, c, want, x)
			copy(was[at:], []byte{0x44, 0x33, 0x22, 0x11})
			still(t, m, was, x)
		}
	}
}

// TestC1OwnTablesFetch has a guest's code found by its own table, or not.
func TestC1OwnTablesFetch(t *testing.T) {
	m := world(t, true)
	ownTables(t, m)
	good(t, m.R.Store(64*39, 4, encode(t, api.Instr{Op: api.OpMovi, A: 3, Imm: 8})))
	guest := func(pc, tab int) api.Cpu {
		c := with(pc)
		c.Sys[api.SysTable] = 1<<31 + uint32(tab)
		return c
	}
	want := guest(260, 10)
	want.Regs[3] = 8
	quiet(t, m, guest(256, 10), want, "its own page 4")
	for _, x := range []struct {
		pc, tab int
		f       api.Fault
	}{
		{64, 10, api.Fault{Kind: api.FaultRights, Stage: 1, Level: 1, Page: 1}},
		{192, 10, api.Fault{Kind: api.FaultMissing, Stage: 1, Level: 1, Page: 3}},
		{384, 10, api.Fault{Kind: api.FaultSize}},
		{448, 10, api.Fault{Kind: api.FaultRights, Stage: 2, Level: 1, Page: 3}},
		{256, 2, api.Fault{Kind: api.FaultMissing, Stage: 2, Level: 1, Walk: true, Page: 2}},
		{256, 4, api.Fault{Kind: api.FaultRights, Stage: 2, Level: 1, Walk: true, Page: 4}},
		{256, 7, api.Fault{Kind: api.FaultSize, Stage: 1, Page: 4}},
		{256, 40, api.Fault{Kind: api.FaultMissing, Stage: 2, Walk: true, Page: 40}},
	} {
		// What was found by one table must not be found by the other one.
		m.T.FlushAll()
		traps(t, m, guest(x.pc, x.tab), api.Trap{Cause: api.TrapFetch, Addr: x.pc, Fault: x.f}, x)
	}
	// A thread's system registers say nothing: its page 4 has no right to be fetched from.
	m.V = nil
	m.T.FlushAll()
	traps(t, m, guest(256, 10), api.Trap{Cause: api.TrapFetch, Addr: 256, Fault: api.Fault{Kind: api.FaultRights, Stage: 2, Level: 1, Page: 4}}, "a thread")
}

// TestC1FillsItsEntry looks which entry has which line behind a step: what is fetched, then, in the same one, what is loaded or stored.
func TestC1FillsItsEntry(t *testing.T) {
	code := api.Line{Vmid: vmid, Page: 0, Frame: 1, Rights: 5}
	data := api.Line{Vmid: vmid, Page: 1, Frame: 2, Rights: 3}
	for _, at := range append([]int{0, 1, 2, 3, 4, 5, 6, 7, 8, 9}, farNumbers...) {
		for _, x := range []struct {
			i    api.Instr
			b    uint32
			last api.Line
		}{
			{api.Instr{Op: api.OpNop}, 0, code},
			{api.Instr{Op: api.OpLdr, A: 2, B: 1}, 64, data},
			{api.Instr{Op: api.OpStr, A: 2, B: 1}, 64, data},
			{api.Instr{Op: api.OpLdrb, A: 2, B: 1}, 65, data},
			{api.Instr{Op: api.OpStrb, A: 2, B: 1}, 127, data},
			{api.Instr{Op: api.OpLdr, A: 2, B: 1}, 0, code},
			{api.Instr{Op: api.OpLdr, A: 2, B: 1}, 2, code},
			{api.Instr{Op: api.OpLdr, A: 2, B: 1}, 128, code},
			{api.Instr{Op: api.OpStr, A: 2, B: 1}, 0, code},
			{api.Instr{Op: api.OpLdr, A: 2, B: 1}, 64 * 7, api.Line{Vmid: vmid, Page: 7, Frame: 40, Rights: all}},
			{api.Instr{Op: api.OpSvc}, 0, code},
		} {
			for _, guest := range kinds {
				m := one(t, guest, 0, x.i)
				Step(m, with(0, 1, x.b), vmid, root, at)
				want := map[int]api.Line{}
				if at >= 0 && at < lines {
					want[at] = x.last
				}
				nothingButThese(t, m.T, want, x, at)
			}
		}
	}
}

// TestC1AsksTheBuffer counts how often: once for what is fetched, once for what is loaded or stored, if its address is one.
func TestC1AsksTheBuffer(t *testing.T) {
	for _, x := range []struct {
		text   string
		b      uint32
		looked int
	}{{"nop", 0, 1}, {"svc 1", 0, 1}, {"jmp 64", 0, 1}, {"ldr r2, [r1 + 0]", 64, 2}, {"str r2, [r1 + 0]", 64, 2}, {"ldr r2, [r1 + 0]", 66, 1}, {"str r2, [r1 + 0]", 65, 1}, {"strb r2, [r1 + 0]", 65, 2}, {"ldrb r2, [r1 + 0]", 128, 2}, {"word 0", 0, 1}} {
		m := world(t, false)
		lay(t, m, 0, source(t, x.text)...)
		Step(m, with(0, 1, x.b), vmid, root, 0)
		if found, missed := m.T.Counts(); found != 0 || missed != x.looked {
			t.Errorf("%q: found %d, missed %d, want 0, %d", x.text, found, missed, x.looked)
		}
	}
}

// TestC1BufferIsUsed has a line that no table says: it is what the buffer remembers that counts, till it forgets.
func TestC1BufferIsUsed(t *testing.T) {
	m := one(t, true, 0, api.Instr{Op: api.OpLdr, A: 2, B: 1})
	good(t, m.R.Store(64*20, 4, 4711), m.T.Fill(7, api.Line{Vmid: vmid, Page: 2, Frame: 20, Rights: api.Read}))
	quiet(t, m, with(0, 1, 128), with(4, 1, 128, 2, 4711), "remembered")
	lay(t, m, 4, encode(t, api.Instr{Op: api.OpTlbi}))
	quiet(t, m, with(4), with(8), "tlbi")
	traps(t, m, with(0, 1, 128), api.Trap{Cause: api.TrapLoad, Addr: 128, Fault: api.Fault{Kind: api.FaultMissing, Stage: 2, Level: 1, Page: 2}}, "forgotten")
}

// TestC1SpacesDoNotMix has the buffer remember pages of other numbers of spaces.
func TestC1SpacesDoNotMix(t *testing.T) {
	for _, l := range []api.Line{{Vmid: 2, Page: 2, Frame: 20, Rights: all}, {Vmid: 1, Asid: 1, Page: 2, Frame: 20, Rights: all}} {
		m := one(t, true, 0, api.Instr{Op: api.OpLdr, A: 2, B: 1})
		good(t, m.T.Fill(7, l))
		c := with(0, 1, 128)
		c.Sys[api.SysAsid] = 1
		traps(t, m, c, api.Trap{Cause: api.TrapLoad, Addr: 128, Fault: api.Fault{Kind: api.FaultMissing, Stage: 2, Level: 1, Page: 2}}, l)
	}
}

// TestR1AnyNumbers goes over numbers of spaces, tables, entries and counts that are none.
func TestR1AnyNumbers(t *testing.T) {
	numbers := append([]int{0, 1, 3, 7, 8, 15, 16, 39, 40}, farNumbers...)
	for _, guest := range kinds {
		m := one(t, guest, 0, api.Instr{Op: api.OpLdr, A: 2, B: 1})
		lay(t, m, 64, 5)
		for _, number := range numbers {
			for _, second := range numbers {
				for _, at := range numbers {
					m.T.FlushAll()
					c, trap := Step(m, with(0, 1, 64), number, second, at)
					if second == root && (c != with(4, 1, 64, 2, 5) || trap != (api.Trap{})) {
						t.Fatalf("Step(%d, %d, %d) = %v, %+v", number, second, at, c, trap)
					}
					if second != root && (c != with(0, 1, 64) || trap.Cause != api.TrapFetch) {
						t.Fatalf("Step(%d, %d, %d) = %v, %+v", number, second, at, c, trap)
					}
				}
				Run(m, with(0, 1, 64), number, second, number)
			}
		}
		for _, pc := range numbers {
			for _, word := range words {
				Run(m, with(pc, 1, word), vmid, root, 3)
			}
		}
	}
}
