package cpu

import (
	"bytes"
	"slices"
	"testing"

	"viceroy/api"
	"viceroy/isa"
	"viceroy/pte"
	"viceroy/ram"
	"viceroy/tlb"
	"viceroy/vgic"
	"viceroy/walk"
)

// model is the chapter's tables once more, as one switch, on a memory and virtual interrupts of its own.
// With a buffer it reaches by chapter 4's Reach, without one by Nested: then nothing is remembered.
type model struct {
	r *ram.Ram
	b *tlb.Tlb
	v *vgic.Vgic
}

func (o model) space(c api.Cpu, number, second int) api.Space {
	s := api.Space{Vmid: number, First: -1, Second: second}
	if tab := c.Sys[0]; o.v != nil && tab >= 1<<31 {
		s.First, s.Asid = int(tab%1024), int(c.Sys[1]%16)
	}
	return s
}

// find tells the frame's number and the bytes of an address's page.
func (o model) find(s api.Space, address, want, at int) (int, []byte, api.Fault) {
	var frame int
	var f api.Fault
	if o.b != nil {
		frame, f = walk.Reach(o.r, o.b, s, address/64, want, at)
	} else {
		frame, _, f = walk.Nested(o.r, s, address/64, want)
	}
	if f != (api.Fault{}) {
		return 0, nil, f
	}
	b, e := o.r.Frame(frame)
	if e != api.OK {
		return 0, nil, api.Fault{Kind: api.FaultSize}
	}
	return frame, b, api.Fault{}
}

func number(b []byte) (w uint32) {
	for k := len(b) - 1; k >= 0; k-- {
		w = w*256 + uint32(b[k])
	}
	return w
}

func (o model) step(c api.Cpu, vmid, second, at int) (api.Cpu, api.Trap) {
	if c.Pc < 0 || c.Pc >= 65536 || c.Pc%4 != 0 {
		return c, api.Trap{Cause: 4, Addr: c.Pc}
	}
	s := o.space(c, vmid, second)
	_, b, f := o.find(s, c.Pc, 4, at)
	if f != (api.Fault{}) {
		return c, api.Trap{Cause: 1, Addr: c.Pc, Fault: f}
	}
	w := number(b[c.Pc%64 : c.Pc%64+4])
	i, e := isa.Decode(w)
	if e != api.OK || o.v == nil && slices.Contains([]int{17, 19, 20, 22, 23, 24}, i.Op) {
		return c, api.Trap{Cause: 8, Num: int(w), Addr: c.Pc}
	}
	d := c
	d.Pc = (c.Pc + 4) % 65536
	trap := o.does(s, i, &d, c, at)
	if trap.Cause != 0 && trap.Cause != 10 {
		return c, trap
	}
	return d, trap
}

func (o model) does(s api.Space, i api.Instr, d *api.Cpu, c api.Cpu, at int) api.Trap {
	A, B, C := &d.Regs[i.A], c.Regs[i.B], c.Regs[i.C]
	went := api.Trap{}
	tells := func(cause, num int) api.Trap { return api.Trap{Cause: cause, Num: num, Addr: c.Pc} }
	jump := func(goes bool) api.Trap {
		if goes {
			d.Pc = i.Imm
		}
		return went
	}
	switch i.Op {
	case 1:
		*A = uint32(i.Imm)
	case 2, 3, 4, 5, 6:
		*A = sums[i.Op](B, C)
	case 7, 8, 9, 10:
		return o.moves(s, i, d, c, at)
	case 11:
		return jump(c.Regs[i.A] == B)
	case 12:
		return jump(c.Regs[i.A] != B)
	case 13:
		return jump(int(c.Regs[i.A]) < int(B))
	case 14:
		return jump(true)
	case 15:
		*A = uint32(c.Pc+4) % 65536
		return jump(true)
	case 16:
		d.Pc = int(B % 65536)
	case 17:
		return tells(5, i.Imm)
	case 18:
		return tells(6, i.Imm)
	case 19:
		if i.Imm >= 7 {
			return tells(7, i.Imm)
		}
		*A = c.Sys[i.Imm]
	case 20:
		if i.Imm >= 6 {
			return tells(7, i.Imm)
		}
		d.Sys[i.Imm] = B
		if i.Imm == 2 && o.v.SetMask(int(B)) != api.OK {
			o.v.SetMask(256)
		}
	case 21:
		if o.v == nil {
			return tells(9, 0)
		}
		if _, ok := o.v.Next(); !ok {
			return tells(9, 0)
		}
	case 22:
		*A = uint32(o.v.Ack())
	case 23:
		if told, _ := o.v.End(int(B)); told {
			return tells(10, int(B))
		}
	case 24:
		if o.b != nil {
			o.b.FlushAsid(s.Vmid, s.Asid)
		}
	}
	return went
}

func (o model) moves(s api.Space, i api.Instr, d *api.Cpu, c api.Cpu, at int) api.Trap {
	a := int((uint64(c.Regs[i.B]) + uint64(i.Imm)) % 65536)
	size, want, cause := 1, 1, 2
	if i.Op == 7 || i.Op == 8 {
		size = 4
	}
	if i.Op == 8 || i.Op == 10 {
		want, cause = 2, 3
	}
	if size == 4 && a%4 != 0 {
		return api.Trap{Cause: 4, Addr: a}
	}
	frame, b, f := o.find(s, a, want, at)
	if f != (api.Fault{}) {
		return api.Trap{Cause: cause, Addr: a, Fault: f}
	}
	here := b[a%64 : a%64+size]
	if want == 1 {
		d.Regs[i.A] = number(here)
		return api.Trap{}
	}
	for k := range here {
		here[k] = byte(c.Regs[i.A] >> (8 * k))
	}
	o.r.Lay(frame, b...)
	return api.Trap{}
}

// dice are numbers one behind the other, always the same ones of the same beginning.
type dice uint64

func (d *dice) below(n int) int {
	*d = *d*6364136223846793005 + 1442695040888963407
	return int(uint64(*d)>>33) % n
}

func (d *dice) of(list ...int) int { return list[d.below(len(list))] }

// someWord is mostly an instruction's, with numbers that are likely to mean something; some are nothing.
func (d *dice) someWord() uint32 {
	if d.below(30) == 0 {
		return uint32(d.below(1<<31)) + uint32(d.below(2))<<31
	}
	op := 1 + d.below(25)
	if d.below(3) == 0 {
		op = d.of(7, 8, 9, 10, 22, 23, 20)
	}
	i := api.Instr{Op: op}
	for _, sign := range isa.Kind(op) {
		switch sign {
		case 'a':
			i.A = d.below(16)
		case 'b':
			i.B = d.below(16)
		case 'c':
			i.C = d.below(16)
		case 'i':
			i.Imm = d.someNumber(op)
		}
	}
	w, _ := isa.Encode(i)
	return w
}

func (d *dice) someNumber(op int) int {
	switch op {
	case api.OpMrs, api.OpMsr:
		return d.of(0, 1, 2, 2, 3, 4, 5, 6, 7, 8, 65535)
	case api.OpBeq, api.OpBne, api.OpBlt, api.OpJmp, api.OpJal:
		return d.of(4*d.below(16), 4*d.below(16), 640+4*d.below(16), 65472+4*d.below(16), 576+4*d.below(16), d.below(65536))
	}
	return d.someAddress()
}

func (d *dice) someAddress() int {
	page := d.of(0, 1, 1, 1, 2, 3, 4, 5, 6, 7, 9, 10, 10, 11, 32, 64, 1023, 1023)
	return 64*page + d.of(0, 4, 8, 60, 4*d.below(16), d.below(64))
}

func (d *dice) someRegister() uint32 {
	switch d.below(5) {
	case 0:
		return uint32(d.someAddress())
	case 1:
		return uint32(d.below(70))
	case 2:
		return words[d.below(len(words))]
	case 3:
		return uint32(d.below(300))
	}
	return uint32(d.below(1<<31))*2 + uint32(d.below(2))
}

func (d *dice) someState() api.Cpu {
	c := api.Cpu{Pc: d.of(0, 4*d.below(16), 640+4*d.below(16), 576+4*d.below(16), 65472+4*d.below(16))}
	if d.below(40) == 0 {
		c.Pc = d.of(append([]int{65536, 2, 65535, d.someAddress()}, farNumbers...)...)
	}
	for n := range c.Regs {
		c.Regs[n] = d.someRegister()
	}
	for n := range c.Sys {
		c.Sys[n] = d.someRegister()
	}
	c.Sys[api.SysTable] = d.someTable()
	return c
}

// someTable is none, mostly; else that of ownTables, or a page that has none.
func (d *dice) someTable() uint32 {
	if d.below(2) == 0 {
		return uint32(d.below(1 << 31))
	}
	return 1<<31 + uint32(d.of(10, 10, 10, 10, 2, 4, 7, 9)) + uint32(d.below(4))<<10
}

// worlds are two of one kind, for a machine and for a model, with the same words in all frames that are code or data.
func worlds(t *testing.T, d *dice, guest bool) (Machine, Machine) {
	t.Helper()
	m, twin := world(t, guest), world(t, guest)
	for _, frame := range []int{1, 2, 6, 7, 8, 9, 10, 11, 39} {
		for k := range 16 {
			w := d.someWord()
			if k > 0 && w>>24 == api.OpEoi {
				// What is acknowledged ahead of it is likely to be what it ends.
				ack := uint32(api.OpIar<<24) + w<<4&0xf00000
				good(t, m.R.Store(64*frame+4*k-4, 4, ack), twin.R.Store(64*frame+4*k-4, 4, ack))
			}
			good(t, m.R.Store(64*frame+4*k, 4, w), twin.R.Store(64*frame+4*k, 4, w))
		}
	}
	ownTables(t, m)
	ownTables(t, twin)
	return m, twin
}

// inject does the same to both controllers.
func inject(d *dice, a, b *vgic.Vgic) {
	id, priority, level, on := d.below(64), d.below(256), d.below(2) == 0, d.below(8) > 0
	for _, v := range []*vgic.Vgic{a, b} {
		v.Inject(id, priority, level)
		v.Enable(id, on)
	}
}

// alike wants that the two have come to the same.
func alike(t *testing.T, m, twin Machine, c, d api.Cpu, x, y api.Trap, row, step int) {
	t.Helper()
	if c != d || x != y {
		t.Fatalf("row %d, step %d: %v, %+v, the model: %v, %+v", row, step, c, x, d, y)
	}
	if a, b := seen(m.V), seen(twin.V); !same(a, b) {
		t.Fatalf("row %d, step %d: virtual interrupts: %+v, the model: %+v", row, step, a, b)
	}
	if !bytes.Equal(image(t, m.R), image(t, twin.R)) {
		t.Fatalf("row %d, step %d: the memories are unlike", row, step)
	}
}

// TestModel has long rows of steps against the model with a buffer of its own, tables that change under their feet included:
// both have come to the same behind each step, and the buffers have the same lines and counts.
func TestModel(t *testing.T) {
	roll := dice(9)
	causes, ops := map[int]int{}, map[int]int{}
	for row := range 400 {
		m, twin := worlds(t, &roll, row%4 > 0)
		o := model{r: twin.R, b: twin.T, v: twin.V}
		if row%3 == 0 {
			// The frame 2 is the page 1 and its table: what is written to that page changes which pages there are.
			good(t, pte.Put(m.R, root, 0, table(2)), pte.Put(twin.R, root, 0, table(2)))
			for page, l := range map[int]api.Entry{0: leaf(1, all), 1: leaf(2, all), 10: leaf(11, all)} {
				good(t, pte.Put(m.R, 2, page, l), pte.Put(twin.R, 2, page, l))
			}
		}
		c := roll.someState()
		for step := range 60 {
			if m.V != nil && roll.below(3) == 0 {
				inject(&roll, m.V, twin.V)
			}
			at, number := roll.of(0, 1, 2, 3, 4, 5, 6, 7, 8, -1), roll.of(1, 1, 1, 1, 2, 0, 16)
			if w, e := m.R.Load(64+c.Pc, 4); c.Pc >= 0 && c.Pc < 64 && e == api.OK {
				ops[int(w>>24)]++
			}
			d, x := Step(m, c, number, root, at)
			want, y := o.step(c, number, root, at)
			alike(t, m, twin, d, want, x, y, row, step)
			if !slices.Equal(m.T.Lines(), twin.T.Lines()) {
				t.Fatalf("row %d, step %d: lines %v, the model: %v", row, step, m.T.Lines(), twin.T.Lines())
			}
			f1, m1 := m.T.Counts()
			f2, m2 := twin.T.Counts()
			if f1 != f2 || m1 != m2 {
				t.Fatalf("row %d, step %d: counts %d, %d, the model: %d, %d", row, step, f1, m1, f2, m2)
			}
			causes[x.Cause]++
			if c = d; x.Cause != api.TrapNone && x.Cause != api.TrapMaint {
				c = roll.someState()
			}
		}
	}
	for cause := range 11 {
		if causes[cause] < 20 {
			t.Errorf("the trap %d came %d times only", cause, causes[cause])
		}
	}
	for op := 1; op <= 25; op++ {
		if ops[op] < 20 {
			t.Errorf("the operation %d came %d times only", op, ops[op])
		}
	}
}

// fixed has no page of the world be written that is a table: what a step does hangs on nothing that the buffer can have missed.
func fixed(t *testing.T, machines ...Machine) {
	t.Helper()
	for _, m := range machines {
		good(t, pte.Put(m.R, 4, 10, leaf(11, api.Read|api.Exec)))
	}
}

// TestC3TheBufferIsNotSeen has rows of steps against the model that has no buffer, while entries are forgotten at any time.
// No table changes; where the guest says another one, or leaves its own, all is forgotten.
func TestC3TheBufferIsNotSeen(t *testing.T) {
	roll := dice(77)
	for row := range 300 {
		m, twin := worlds(t, &roll, row%4 > 0)
		fixed(t, m, twin)
		o := model{r: twin.R, v: twin.V}
		c := roll.someState()
		for step := range 60 {
			if m.V != nil && roll.below(3) == 0 {
				inject(&roll, m.V, twin.V)
			}
			if row%2 == 0 && roll.below(4) == 0 {
				m.T.Evict(roll.below(8))
			}
			d, x := Step(m, c, vmid, root, roll.below(9))
			want, y := o.step(c, vmid, root, 0)
			alike(t, m, twin, d, want, x, y, row, step)
			next := d
			if x.Cause != api.TrapNone && x.Cause != api.TrapMaint {
				next = roll.someState()
			}
			if Space(m, next, vmid, root) != Space(m, c, vmid, root) {
				m.T.FlushAll()
			}
			c = next
		}
	}
}

// TestC3WhatIsReachedIsGiven has steps of guests with tables of their own choice: whatever they say,
// the bytes that change lie in frames that the other table lets be written.
func TestC3WhatIsReachedIsGiven(t *testing.T) {
	roll := dice(4)
	changed := 0
	for range 3000 {
		m, _ := worlds(t, &roll, true)
		for k := range 32 {
			// A guest's entries may name any page; its own root is data here.
			good(t, pte.Put(m.R, 7, k, leaf(roll.of(0, 1, 2, 3, 4, 5, 6, 7, 9, 10, 64, 1023, roll.below(1024)), roll.below(8))))
		}
		c := roll.someState()
		c.Sys[api.SysTable], c.Pc = 1<<31+10, 4*roll.below(480)
		for range 8 {
			was := image(t, m.R)
			d, x := Step(m, c, vmid, root, roll.below(8))
			for at, b := range image(t, m.R) {
				if b == was[at] {
					continue
				}
				changed++
				if frame := at / 64; !slices.Contains([]int{2, 8, 39, 11, 6}, frame) || x.Cause != api.TrapNone {
					t.Fatalf("a byte of the frame %d changed, behind %+v", frame, x)
				}
			}
			c = d
			if x.Cause != api.TrapNone {
				c.Pc = 4 * roll.below(480)
			}
		}
	}
	if changed < 100 {
		t.Errorf("only %d bytes changed", changed)
	}
}

// TestC2AgainstSteps has Run against Step one by one, each on a world of its own.
func TestC2AgainstSteps(t *testing.T) {
	roll := dice(5)
	ends := map[int]int{}
	for row := range 600 {
		m, twin := worlds(t, &roll, row%4 > 0)
		for range roll.below(6) {
			if m.V != nil {
				inject(&roll, m.V, twin.V)
			}
		}
		c := roll.someState()
		many := roll.of(0, 1, 2, 3, 5, 8, 30, 1000, 1001, -1)
		d, x, n := Run(m, c, vmid, root, many)
		want, y, done := c, api.Trap{}, 0
		for done < many && done < 1000 && y.Cause == api.TrapNone {
			want, y = Step(twin, want, vmid, root, want.Pc/4%8)
			if y.Cause == api.TrapNone {
				done++
			}
		}
		alike(t, m, twin, d, want, x, y, row, n)
		if n != done || !slices.Equal(m.T.Lines(), twin.T.Lines()) {
			t.Fatalf("row %d: Run of %d did %d steps, one by one %d; lines %v, %v", row, many, n, done, m.T.Lines(), twin.T.Lines())
		}
		ends[x.Cause]++
	}
	for cause := range 11 {
		if ends[cause] == 0 {
			t.Errorf("no Run ended with the trap %d", cause)
		}
	}
}

// TestR6TheSameAgain has a row of steps on two machines that are alike: they do the same, and one does not touch the other.
func TestR6TheSameAgain(t *testing.T) {
	roll := dice(31)
	for row := range 60 {
		m, twin := worlds(t, &roll, row%2 == 0)
		other, _ := worlds(t, &roll, true)
		was, heard, held := image(t, other.R), seen(other.V), other.T.Lines()
		c := roll.someState()
		for step := range 40 {
			at := roll.below(8)
			d, x := Step(m, c, vmid, root, at)
			want, y := Step(twin, c, vmid, root, at)
			alike(t, m, twin, d, want, x, y, row, step)
			if c = d; x.Cause != api.TrapNone {
				c = roll.someState()
			}
		}
		still(t, other, was, "another machine")
		if !same(seen(other.V), heard) || !slices.Equal(other.T.Lines(), held) {
			t.Fatal("another machine changed")
		}
	}
}
