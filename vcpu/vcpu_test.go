package vcpu

import (
	"math"
	"reflect"
	"slices"
	"testing"

	"viceroy/api"
	"viceroy/vgic"
)

// far are no virtual processor, no thread and no register; some would be one if they were cut to fewer bits.
var far = []int{-1, -2, -7, -8, -1023, -1024, -1 << 16, -1 << 31, -1 << 32, -1 << 62, math.MinInt, math.MinInt + 1, math.MinInt + 3, 1024, 1025, 2047, 1 << 16, 1<<16 + 3, 1 << 31, 1 << 32, 1<<32 + 3, 1 << 62, math.MaxInt - 1, math.MaxInt}

// registers are a virtual processor's, or the bank's.
type registers = [8]uint32

func made(t *testing.T, lrs int) *Vcpus {
	t.Helper()
	p, e := New(lrs)
	if p == nil || e != api.OK {
		t.Fatalf("New(%d): %v", lrs, e)
	}
	return p
}

// with has these added.
func with(t *testing.T, ids ...int) *Vcpus {
	t.Helper()
	p := made(t, 2)
	for _, id := range ids {
		good(t, p.Add(id))
	}
	return p
}

// busy has four. 3 is loaded, bound, and has a pending and an active interrupt; 4 is laid aside and bound; 5 is neither; 0 is bound to the thread 0.
func busy(t *testing.T) *Vcpus {
	t.Helper()
	p := with(t, 4, 3, 5, 0)
	good(t, p.Enter(4), p.SetBank(registers{11, 12, 13, 14, 15, 16, 99, 99}))
	good(t, p.Enter(3), p.SetBank(registers{1, 2, 3, 4, 5, 6, 99, 99}))
	good(t, p.Bind(3, 7), p.Bind(4, 1023), p.Bind(0, 0))
	good(t, p.Inject(3, 9, 20, true), p.Inject(4, 8, 30, false))
	if n := p.Vgic(3).Ack(); n != 9 {
		t.Fatal(n)
	}
	good(t, p.Inject(3, 40, 5, false))
	return p
}

func good(t *testing.T, errs ...api.Errno) {
	t.Helper()
	for n, e := range errs {
		if e != api.OK {
			t.Fatalf("call %d of %d: %v", n+1, len(errs), e)
		}
	}
}

// lines is what can be told of virtual interrupts.
type lines struct {
	All, Lrs               []api.Lr
	Next                   int
	Some                   bool
	Injected, Acked, Ended int
}

func linesOf(v *vgic.Vgic) lines {
	x := lines{All: v.All(), Lrs: v.Lrs()}
	x.Next, x.Some = v.Next()
	x.Injected, x.Acked, x.Ended = v.Counts()
	return x
}

// seen is what can be told of one virtual processor.
type seen struct {
	Thread int
	Sys    registers
	Lines  lines
}

// told is all that can be seen without a change.
type told struct {
	Loaded int
	Bank   registers
	All    map[int]seen
	Of     map[int]int
}

func tell(t *testing.T, p *Vcpus) told {
	t.Helper()
	x := told{Loaded: p.Loaded(), Bank: p.Bank(), All: map[int]seen{}, Of: map[int]int{}}
	for id := range 1024 {
		if of := p.Of(id); of != -1 {
			x.Of[id] = of
		}
		if v := p.Vgic(id); v != nil {
			x.All[id] = seen{Thread: p.Thread(id), Sys: sysOf(t, p, id), Lines: linesOf(v)}
		} else {
			absent(t, p, id)
		}
	}
	return x
}

func sysOf(t *testing.T, p *Vcpus, id int) registers {
	t.Helper()
	var r registers
	for n := range r {
		w, e := p.Read(id, n)
		if e != api.OK {
			t.Fatalf("Read(%d, %d): %v", id, n, e)
		}
		r[n] = w
	}
	return r
}

// absent asks that there is none of that number.
func absent(t *testing.T, p *Vcpus, id int) {
	t.Helper()
	w, e := p.Read(id, 0)
	if w != 0 || e != api.ErrVcpu || p.Thread(id) != -1 || p.Vgic(id) != nil {
		t.Fatalf("%d is there: %d, %v, %d, %v", id, w, e, p.Thread(id), p.Vgic(id))
	}
}

// fresh is what one is behind Add.
func fresh(id int) seen {
	return seen{Thread: -1, Sys: registers{api.SysId: uint32(id)}}
}

// fails is a call that tells an error, and changes nothing.
func fails(t *testing.T, p *Vcpus, name string, want api.Errno, call func() api.Errno) {
	t.Helper()
	before := tell(t, p)
	if e := call(); e != want {
		t.Errorf("%s: %v; want %v", name, e, want)
	}
	if !reflect.DeepEqual(tell(t, p), before) {
		t.Errorf("%s: an error changed something", name)
	}
}

// becomes is what comes of a call that goes well: all that was, but for what is changed.
func becomes(t *testing.T, p *Vcpus, name string, call func() api.Errno, change func(x *told)) {
	t.Helper()
	want := tell(t, p)
	change(&want)
	if e := call(); e != api.OK {
		t.Errorf("%s: %v", name, e)
	}
	if got := tell(t, p); !reflect.DeepEqual(got, want) {
		t.Errorf("%s:\n%+v\nwant\n%+v", name, got, want)
	}
}

func bank(t *testing.T, p *Vcpus, loaded int, want registers) {
	t.Helper()
	if b := p.Bank(); b != want || p.Loaded() != loaded {
		t.Errorf("%v, of %d; want %v, of %d", b, p.Loaded(), want, loaded)
	}
}

func reads(t *testing.T, p *Vcpus, id int, want registers) {
	t.Helper()
	if r := sysOf(t, p, id); r != want {
		t.Errorf("%d has %v; want %v", id, r, want)
	}
}

func TestExamples(t *testing.T) {
	p := with(t, 3, 4)
	good(t, p.Enter(3), p.SetBank(registers{1, 2}), p.Enter(4))
	bank(t, p, 4, registers{api.SysId: 4})
	if w, e := p.Read(3, 1); w != 2 || e != api.OK {
		t.Error(w, e)
	}
	good(t, p.Write(3, 1, 9), p.Enter(3))
	bank(t, p, 3, registers{1, 9, 0, 0, 0, 0, 3, 0})
	if e, f, of := p.Bind(3, 7), p.Bind(4, 7), p.Of(7); e != api.OK || f != api.ErrBound || of != 3 {
		t.Error(e, f, of)
	}
	good(t, p.Write(3, 3, 2))
	for n, want := range []bool{false, true, false} {
		if p.Tick() != want {
			t.Error("tick", n)
		}
	}
	if l := p.Vgic(3).All(); !slices.Equal(l, []api.Lr{{Id: 27, Priority: 10, Pending: true}}) {
		t.Error(l)
	}
	_, e := p.Read(3, 8)
	_, f := p.Read(9, 0)
	if p.Write(3, 6, 1) != api.ErrArg || e != api.ErrArg || f != api.ErrVcpu {
		t.Error(e, f)
	}
}

func TestB1New(t *testing.T) {
	for lrs := 1; lrs <= 16; lrs++ {
		x := tell(t, made(t, lrs))
		if !reflect.DeepEqual(x, told{Loaded: -1, All: map[int]seen{}, Of: map[int]int{}}) {
			t.Errorf("New(%d): %+v", lrs, x)
		}
	}
	for _, lrs := range append([]int{0, 17, 18, 32, 1<<32 + 1}, far...) {
		if p, e := New(lrs); p != nil || e != api.ErrArg {
			t.Errorf("New(%d): %v, %v", lrs, p, e)
		}
	}
}

// Each one's virtual interrupts have as many list registers as New was told, whichever it is, and are as chapter 8's are at first.
func TestB1ListRegisters(t *testing.T) {
	for lrs := 1; lrs <= 16; lrs++ {
		p := made(t, lrs)
		good(t, p.Add(1), p.Add(1023), p.Enter(1), p.Drop(1), p.Add(1))
		for _, id := range []int{1, 1023} {
			v, e := vgic.New(lrs)
			good(t, e)
			for irq := range 64 {
				good(t, p.Inject(id, irq, 255-irq, irq%3 == 0), v.Inject(irq, 255-irq, irq%3 == 0))
			}
			for range 65 {
				if got, want := linesOf(p.Vgic(id)), linesOf(v); !reflect.DeepEqual(got, want) || len(got.Lrs) != min(lrs, len(got.All)) {
					t.Fatalf("%d of %d: %+v; want %+v", id, lrs, got, want)
				}
				irq := v.Ack()
				if n := p.Vgic(id).Ack(); n != irq {
					t.Fatal(n, irq)
				}
				v.End(irq)
				p.Vgic(id).End(irq)
			}
		}
	}
}

func TestB1Add(t *testing.T) {
	p := made(t, 2)
	for _, id := range []int{3, 0, 1023, 4, 1, 1022, 512} {
		becomes(t, p, "Add", func() api.Errno { return p.Add(id) }, func(x *told) { x.All[id] = fresh(id) })
	}
	p = busy(t)
	becomes(t, p, "Add", func() api.Errno { return p.Add(6) }, func(x *told) { x.All[6] = fresh(6) })
}

func TestB1AddAll(t *testing.T) {
	p := made(t, 1)
	for k := range 1024 {
		good(t, p.Add(k*389%1024))
	}
	for id := range 1024 {
		reads(t, p, id, registers{api.SysId: uint32(id)})
		if e := p.Add(id); e != api.ErrFull {
			t.Fatal(id, e)
		}
		if p.Thread(id) != -1 || p.Of(id) != -1 {
			t.Fatal(id, "is bound")
		}
	}
	bank(t, p, -1, registers{})
}

func TestB1AddErrors(t *testing.T) {
	p := busy(t)
	for _, id := range far {
		fails(t, p, "Add", api.ErrArg, func() api.Errno { return p.Add(id) })
	}
	for _, id := range []int{0, 3, 4, 5} {
		fails(t, p, "Add", api.ErrFull, func() api.Errno { return p.Add(id) })
	}
}

func TestB1Drop(t *testing.T) {
	for _, x := range []struct{ id, thread int }{{4, 1023}, {5, -1}, {0, 0}} {
		p := busy(t)
		becomes(t, p, "Drop", func() api.Errno { return p.Drop(x.id) }, func(y *told) {
			delete(y.All, x.id)
			delete(y.Of, x.thread)
		})
		fails(t, p, "Drop", api.ErrVcpu, func() api.Errno { return p.Drop(x.id) })
		bank(t, p, 3, registers{1, 2, 3, 4, 5, 6, 3, 0})
	}
}

func TestB1DropTheLoadedOne(t *testing.T) {
	p := busy(t)
	becomes(t, p, "Drop", func() api.Errno { return p.Drop(3) }, func(x *told) {
		delete(x.All, 3)
		delete(x.Of, 7)
		x.Loaded, x.Bank = -1, registers{}
	})
	fails(t, p, "SetBank", api.ErrIdle, func() api.Errno { return p.SetBank(registers{1}) })
	fails(t, p, "Enter", api.ErrVcpu, func() api.Errno { return p.Enter(3) })
	becomes(t, p, "Bind", func() api.Errno { return p.Bind(5, 7) }, func(x *told) {
		y := x.All[5]
		y.Thread = 7
		x.All[5], x.Of[7] = y, 5
	})
}

// What is added again has nothing of what it was: registers, interrupts, masks, a thread, the bank.
func TestB1AddAgain(t *testing.T) {
	for _, id := range []int{3, 4, 5, 0} {
		p := busy(t)
		good(t, p.Vgic(id).SetMask(0), p.Vgic(id).Enable(2, false))
		was := p.Vgic(id)
		loaded := p.Loaded()
		if loaded == id {
			loaded = -1
		}
		good(t, p.Drop(id))
		becomes(t, p, "Add", func() api.Errno { return p.Add(id) }, func(x *told) { x.All[id] = fresh(id) })
		if p.Loaded() != loaded || p.Vgic(id) == was {
			t.Errorf("%d: %d is loaded; the same interrupts: %v", id, p.Loaded(), p.Vgic(id) == was)
		}
		good(t, p.Inject(id, 2, 254, false))
		if n := p.Vgic(id).Ack(); n != 2 {
			t.Error("it keeps a mask:", n)
		}
		good(t, p.Enter(id))
		bank(t, p, id, registers{api.SysId: uint32(id)})
	}
}

func TestB1DropErrors(t *testing.T) {
	p := busy(t)
	for _, id := range append([]int{1, 2, 6, 7, 1023}, far...) {
		fails(t, p, "Drop", api.ErrVcpu, func() api.Errno { return p.Drop(id) })
	}
}

func TestB2Bind(t *testing.T) {
	for _, id := range []int{0, 3, 4, 1023} {
		for _, thread := range []int{0, 1, 7, 1023} {
			p := with(t, 1023, 4, 3, 0)
			good(t, p.Enter(3), p.SetBank(registers{1, 2, 3, 4, 5, 6, 7, 8}))
			becomes(t, p, "Bind", func() api.Errno { return p.Bind(id, thread) }, func(x *told) {
				y := x.All[id]
				y.Thread = thread
				x.All[id], x.Of[thread] = y, id
			})
			becomes(t, p, "Unbind", func() api.Errno { return p.Unbind(id) }, func(x *told) {
				y := x.All[id]
				y.Thread = -1
				x.All[id] = y
				delete(x.Of, thread)
			})
			fails(t, p, "Unbind", api.ErrBound, func() api.Errno { return p.Unbind(id) })
			good(t, p.Bind(4, thread))
			if p.Of(thread) != 4 || p.Thread(4) != thread {
				t.Error(id, thread, p.Of(thread), p.Thread(4))
			}
		}
	}
}

func TestB2BindErrors(t *testing.T) {
	p := busy(t)
	for _, id := range append([]int{1, 2, 6, 7, 1023}, far...) {
		for _, thread := range []int{-1, 0, 7, 8, 1024} { // ahead of ErrArg, and of ErrBound
			fails(t, p, "Bind", api.ErrVcpu, func() api.Errno { return p.Bind(id, thread) })
		}
		fails(t, p, "Unbind", api.ErrVcpu, func() api.Errno { return p.Unbind(id) })
	}
	for _, thread := range far {
		fails(t, p, "Bind", api.ErrArg, func() api.Errno { return p.Bind(5, thread) })
		fails(t, p, "Bind", api.ErrArg, func() api.Errno { return p.Bind(3, thread) }) // ahead of ErrBound
	}
	for _, x := range []struct{ id, thread int }{{3, 7}, {3, 8}, {3, 1023}, {3, 0}, {4, 7}, {0, 1}, {5, 7}, {5, 1023}, {5, 0}} {
		fails(t, p, "Bind", api.ErrBound, func() api.Errno { return p.Bind(x.id, x.thread) })
	}
	fails(t, p, "Unbind", api.ErrBound, func() api.Errno { return p.Unbind(5) })
}

// Who is not bound has no thread, and what is no thread has none of those.
func TestB2Nobody(t *testing.T) {
	p := with(t, 0, 1, 1023)
	for round := range 2 {
		for _, n := range append([]int{0, 1, 2, 1022, 1023}, far...) {
			if p.Of(n) != -1 || p.Thread(n) != -1 {
				t.Errorf("%d, round %d: %d, %d", n, round, p.Of(n), p.Thread(n))
			}
		}
		good(t, p.Bind(0, 5), p.Bind(1, 6), p.Unbind(0), p.Unbind(1), p.Enter(1))
	}
}

func TestB2All(t *testing.T) {
	p := made(t, 1)
	for id := range 1024 {
		good(t, p.Add(id), p.Bind(id, 1023-id))
	}
	for n := range 1024 {
		if p.Of(n) != 1023-n || p.Thread(n) != 1023-n {
			t.Fatal(n, p.Of(n), p.Thread(n))
		}
	}
}

func TestB3Enter(t *testing.T) {
	p := busy(t)
	row := []struct {
		id   int
		want registers
	}{{4, registers{11, 12, 13, 14, 15, 16, 4, 0}}, {5, registers{api.SysId: 5}}, {3, registers{1, 2, 3, 4, 5, 6, 3, 0}}, {3, registers{1, 2, 3, 4, 5, 6, 3, 0}}, {0, registers{}}, {4, registers{11, 12, 13, 14, 15, 16, 4, 0}}, {0, registers{}}}
	for _, x := range row {
		becomes(t, p, "Enter", func() api.Errno { return p.Enter(x.id) }, func(y *told) { y.Loaded, y.Bank = x.id, x.want })
	}
}

// What the bank was told is kept, though the same one is entered again, and again.
func TestB3EnterTheSame(t *testing.T) {
	p := with(t, 3, 4)
	good(t, p.Write(3, 0, 5), p.Enter(3), p.SetBank(registers{7, 8, 9, 1, 2, 3}))
	for range 3 {
		becomes(t, p, "Enter", func() api.Errno { return p.Enter(3) }, func(*told) {})
		bank(t, p, 3, registers{7, 8, 9, 1, 2, 3, 3, 0})
	}
	good(t, p.Enter(4), p.Enter(3))
	bank(t, p, 3, registers{7, 8, 9, 1, 2, 3, 3, 0})
}

func TestB3Leave(t *testing.T) {
	p := busy(t)
	leave := func() api.Errno { p.Leave(); return api.OK }
	for range 2 { // the second one changes nothing
		becomes(t, p, "Leave", leave, func(x *told) { x.Loaded, x.Bank = -1, registers{} })
	}
	good(t, p.Enter(3))
	bank(t, p, 3, registers{1, 2, 3, 4, 5, 6, 3, 0})
	p = made(t, 1)
	becomes(t, p, "Leave", leave, func(*told) {})
}

func TestB3EnterErrors(t *testing.T) {
	p := busy(t)
	for range 2 {
		for _, id := range append([]int{1, 2, 6, 7, 1023}, far...) {
			fails(t, p, "Enter", api.ErrVcpu, func() api.Errno { return p.Enter(id) })
		}
		p.Leave()
	}
}

func TestB4SetBank(t *testing.T) {
	for _, id := range []int{0, 3, 1023} {
		p := with(t, 0, 1, 3, 1023)
		good(t, p.Enter(id))
		for _, b := range []registers{{1, 2, 3, 4, 5, 6, 7, 8}, {}, {math.MaxUint32, math.MaxUint32, math.MaxUint32, math.MaxUint32, math.MaxUint32, math.MaxUint32, math.MaxUint32, math.MaxUint32}, {5: 1}, {6: 1}, {7: 1}} {
			want := b
			want[api.SysId], want[api.SysHyp] = uint32(id), 0
			becomes(t, p, "SetBank", func() api.Errno { return p.SetBank(b) }, func(x *told) {
				y := x.All[id]
				y.Sys = want
				x.All[id], x.Bank = y, want
			})
		}
	}
}

func TestB4SetBankErrors(t *testing.T) {
	p := made(t, 1)
	for range 2 {
		for _, b := range []registers{{}, {1, 2, 3, 4, 5, 6, 7, 8}} {
			fails(t, p, "SetBank", api.ErrIdle, func() api.Errno { return p.SetBank(b) })
		}
		p = busy(t)
		p.Leave()
	}
}

// R5: what was told is not what is kept, and what was handed in is neither.
func TestB4Values(t *testing.T) {
	p := with(t, 3)
	b := registers{1, 2, 3, 4, 5, 6, 7, 8}
	good(t, p.Enter(3), p.SetBank(b))
	if b != (registers{1, 2, 3, 4, 5, 6, 7, 8}) {
		t.Error(b)
	}
	b[0] = 99
	x := p.Bank()
	x[1] = 99
	bank(t, p, 3, registers{1, 2, 3, 4, 5, 6, 3, 0})
}

func TestB5Write(t *testing.T) {
	for _, id := range []int{3, 4, 5, 0} { // 3 is loaded
		for n := range 6 {
			p := busy(t)
			for _, w := range []uint32{77, 0, 1, 1 << 31, math.MaxUint32} {
				becomes(t, p, "Write", func() api.Errno { return p.Write(id, n, w) }, func(x *told) {
					y := x.All[id]
					y.Sys[n] = w
					x.All[id] = y
					if id == 3 {
						x.Bank[n] = w
					}
				})
			}
		}
	}
}

// The loaded one is read, and written, in the bank; it is seen there, and kept.
func TestB5Loaded(t *testing.T) {
	p := busy(t)
	good(t, p.Write(3, 0, 70), p.Write(4, 0, 80))
	bank(t, p, 3, registers{70, 2, 3, 4, 5, 6, 3, 0})
	good(t, p.SetBank(registers{71, 72}))
	reads(t, p, 3, registers{71, 72, 0, 0, 0, 0, 3, 0})
	reads(t, p, 4, registers{80, 12, 13, 14, 15, 16, 4, 0})
	p.Leave()
	reads(t, p, 3, registers{71, 72, 0, 0, 0, 0, 3, 0})
	good(t, p.Write(3, 1, 73))
	bank(t, p, -1, registers{})
	good(t, p.Enter(4), p.Write(3, 2, 74))
	bank(t, p, 4, registers{80, 12, 13, 14, 15, 16, 4, 0})
	good(t, p.Enter(3))
	bank(t, p, 3, registers{71, 73, 74, 0, 0, 0, 3, 0})
}

func TestB5Errors(t *testing.T) {
	p := busy(t)
	read := func(id, n int) func() api.Errno {
		return func() api.Errno {
			w, e := p.Read(id, n)
			if w != 0 {
				t.Errorf("Read(%d, %d) tells %d beside an error", id, n, w)
			}
			return e
		}
	}
	write := func(id, n int) func() api.Errno { return func() api.Errno { return p.Write(id, n, 5) } }
	for _, id := range append([]int{1, 2, 6, 7, 1023}, far...) {
		for _, n := range []int{0, 5, 6, 8, -1} { // ahead of ErrArg
			fails(t, p, "Read", api.ErrVcpu, read(id, n))
			fails(t, p, "Write", api.ErrVcpu, write(id, n))
		}
	}
	for _, id := range []int{3, 4} {
		for _, n := range append([]int{8, 9, 15, 16}, far...) {
			fails(t, p, "Read", api.ErrArg, read(id, n))
			fails(t, p, "Write", api.ErrArg, write(id, n))
		}
		for n := 6; n <= 7; n++ {
			fails(t, p, "Write", api.ErrArg, write(id, n))
			if w, e := p.Read(id, n); e != api.OK || int(w) != (7-n)*id {
				t.Error(id, n, w, e)
			}
		}
	}
}

// Registers are numbers alone here: SysMask keeps no interrupt from being heard, and no timer is due before a tick.
func TestB5RegistersAlone(t *testing.T) {
	for _, loaded := range []int{3, 4} {
		p := with(t, 3, 4)
		good(t, p.Inject(3, 1, 255, false), p.Enter(loaded), p.Write(3, api.SysMask, 1), p.Write(3, api.SysTimer, 5), p.Write(3, api.SysCount, 5))
		if loaded == 3 {
			good(t, p.SetBank(registers{api.SysMask: 2, api.SysTimer: 6, api.SysCount: 6}))
		}
		if n, ok := p.Vgic(3).Next(); n != 1 || !ok {
			t.Error(n, ok)
		}
		if l := p.Vgic(3).All(); len(l) != 1 {
			t.Error(l)
		}
	}
}

func TestB6Inject(t *testing.T) {
	for _, id := range []int{3, 4, 5, 0} { // 3 is loaded
		for _, x := range []api.Lr{{Id: 0, Priority: 0}, {Id: 63, Priority: 255, Level: true}, {Id: 27, Priority: 10}, {Id: 9, Priority: 1, Level: true}} {
			p := busy(t)
			v, e := vgic.New(2)
			good(t, e)
			for _, y := range map[int][]api.Lr{3: {{Id: 9, Priority: 20, Level: true}, {Id: 40, Priority: 5}}, 4: {{Id: 8, Priority: 30}}}[id] {
				good(t, v.Inject(y.Id, y.Priority, y.Level))
				if y.Id == 9 {
					v.Ack()
				}
			}
			good(t, v.Inject(x.Id, x.Priority, x.Level))
			becomes(t, p, "Inject", func() api.Errno { return p.Inject(id, x.Id, x.Priority, x.Level) }, func(y *told) {
				z := y.All[id]
				z.Lines = linesOf(v)
				y.All[id] = z
			})
			fails(t, p, "Inject", api.ErrPending, func() api.Errno { return p.Inject(id, x.Id, 3, false) })
		}
	}
}

func TestB6InjectErrors(t *testing.T) {
	p := busy(t)
	inject := func(id, irq, priority int) func() api.Errno {
		return func() api.Errno { return p.Inject(id, irq, priority, true) }
	}
	for _, id := range append([]int{1, 2, 6, 7, 1023}, far...) {
		for _, irq := range []int{0, 63, 64, -1} { // ahead of ErrArg
			fails(t, p, "Inject", api.ErrVcpu, inject(id, irq, 5))
			fails(t, p, "Inject", api.ErrVcpu, inject(id, irq, 256))
		}
	}
	for _, id := range []int{3, 5} {
		for _, n := range append([]int{64, 65, 127}, far...) {
			fails(t, p, "Inject", api.ErrArg, inject(id, n, 5))
		}
		for _, n := range append([]int{256, 257, 511}, far...) {
			fails(t, p, "Inject", api.ErrArg, inject(id, 1, n))
			fails(t, p, "Inject", api.ErrArg, inject(id, 40, n)) // of 3 ahead of ErrPending
		}
	}
	fails(t, p, "Inject", api.ErrPending, inject(3, 40, 5))
	fails(t, p, "Inject", api.ErrPending, inject(4, 8, 0))
}

// The virtual interrupts are the same ones whenever they are asked for, loaded or not, and each one's own.
func TestB6Vgic(t *testing.T) {
	p := busy(t)
	kept := map[int]*vgic.Vgic{}
	for _, id := range []int{0, 3, 4, 5} {
		kept[id] = p.Vgic(id)
	}
	for _, id := range []int{4, 3, 3, 0, 5} {
		good(t, p.Enter(id), p.Write(id, 0, 1))
		p.Tick()
		for n, v := range kept {
			if p.Vgic(n) != v {
				t.Error(n, "has others")
			}
			for m, w := range kept {
				if n != m && v == w {
					t.Error(n, m, "have the same")
				}
			}
		}
	}
	good(t, kept[5].Inject(7, 7, true))
	if l := p.Vgic(5).All(); len(l) != 1 || l[0].Id != 7 || len(p.Vgic(0).All()) != 0 {
		t.Error(l)
	}
	if n := p.Vgic(5).Ack(); n != 7 {
		t.Error(n)
	}
	good(t, p.Inject(5, 7, 8, false))
	if l := kept[5].All(); !slices.Equal(l, []api.Lr{{Id: 7, Priority: 7, Level: true, Pending: true, Active: true}}) {
		t.Error(l)
	}
	for _, id := range append([]int{1, 2, 6, 1023}, far...) {
		if p.Vgic(id) != nil {
			t.Error(id)
		}
	}
}

func TestB7Tick(t *testing.T) {
	const most = math.MaxUint32
	for _, x := range []struct {
		count, timer, next uint32
		want               bool
	}{
		{0, 0, 1, false}, {0, 1, 1, true}, {0, 2, 1, false}, {1, 1, 2, false}, {1, 2, 2, true}, {5, 4, 6, false},
		{most, 0, 0, false}, {most, most, 0, false}, {most, 1, 0, false}, {most - 1, most, most, true}, {most - 1, 0, most, false},
		{1<<31 - 1, 1 << 31, 1 << 31, true}, {1 << 31, 1<<31 + 1, 1<<31 + 1, true},
	} {
		p := busy(t)
		good(t, p.Write(3, api.SysCount, x.count), p.Write(3, api.SysTimer, x.timer), p.Write(4, api.SysTimer, x.next), p.Write(4, api.SysCount, x.count))
		injected := []api.Lr{{Id: 9, Priority: 20, Level: true, Active: true}, {Id: 40, Priority: 5, Pending: true}}
		if x.want {
			injected = append(injected, api.Lr{Id: 27, Priority: 10, Pending: true})
		}
		becomes(t, p, "Tick", func() api.Errno {
			if got := p.Tick(); got != x.want {
				t.Errorf("%+v: %v", x, got)
			}
			return api.OK
		}, func(y *told) {
			z := y.All[3]
			z.Sys[api.SysCount], y.Bank[api.SysCount] = x.next, x.next
			z.Lines.All, z.Lines.Lrs = injected, injected[:2]
			z.Lines.Injected = len(injected)
			y.All[3] = z
		})
		if n := p.Vgic(3).Ack(); n != 40 {
			t.Error(n)
		}
		p.Vgic(3).End(40)
		if n := p.Vgic(3).Ack(); (n == 27) != x.want {
			t.Error(n, x)
		}
		if flag, e := p.Vgic(3).End(27); flag || (e == api.OK) != x.want {
			t.Error(flag, e, x)
		}
	}
}

func TestB7NoneLoaded(t *testing.T) {
	for _, p := range []*Vcpus{made(t, 1), with(t, 0, 3), busy(t)} {
		p.Leave()
		for _, id := range []int{0, 3} {
			if p.Vgic(id) != nil {
				good(t, p.Write(id, api.SysCount, 4), p.Write(id, api.SysTimer, 5))
			}
		}
		before := tell(t, p)
		for range 3 {
			if p.Tick() {
				t.Error("something was injected")
			}
		}
		if !reflect.DeepEqual(tell(t, p), before) {
			t.Error("a tick of none changed something")
		}
	}
}

// Where 27 waits already, it is not injected, and the count goes on; where it is served, or not heard, it is.
func TestB7Pending(t *testing.T) {
	p := with(t, 3)
	due := func(want bool, count uint32) {
		t.Helper()
		good(t, p.Write(3, api.SysTimer, count))
		if p.Tick() != want {
			t.Error("not", want)
		}
		if w, _ := p.Read(3, api.SysCount); w != count {
			t.Error(w, count)
		}
	}
	good(t, p.Enter(3), p.Inject(3, 27, 99, true))
	due(false, 1)
	if l := p.Vgic(3).All(); !slices.Equal(l, []api.Lr{{Id: 27, Priority: 99, Level: true, Pending: true}}) {
		t.Error(l)
	}
	if n := p.Vgic(3).Ack(); n != 27 {
		t.Error(n)
	}
	due(true, 2)
	due(false, 3)
	if flag, e := p.Vgic(3).End(27); !flag || e != api.OK {
		t.Error(flag, e)
	}
	if l := p.Vgic(3).All(); !slices.Equal(l, []api.Lr{{Id: 27, Priority: 10, Pending: true}}) {
		t.Error(l)
	}
	p.Vgic(3).Ack()
	p.Vgic(3).End(27)
	good(t, p.Vgic(3).Enable(27, false), p.Vgic(3).SetMask(0))
	due(true, 4)
}

// A timer counts while its virtual processor is loaded alone.
func TestB7Aside(t *testing.T) {
	p := with(t, 3, 4)
	good(t, p.Write(3, api.SysTimer, 3), p.Write(4, api.SysTimer, 2))
	for n, x := range []struct {
		id   int
		want bool
	}{{3, false}, {4, false}, {3, false}, {4, true}, {4, false}, {3, true}, {3, false}} {
		good(t, p.Enter(x.id))
		if p.Tick() != x.want {
			t.Error(n, x)
		}
	}
	reads(t, p, 3, registers{0, 0, 0, 3, 0, 4, 3, 0})
	reads(t, p, 4, registers{0, 0, 0, 2, 0, 3, 4, 0})
}

// R1: each call, at the edges of ints, in all orders of them; R6: what was done to others is not seen.
func TestR1AnyNumbers(t *testing.T) {
	numbers := append([]int{0, 1, 3, 5, 7, 27, 63, 64, 255, 256, 1023}, far...)
	p, other := busy(t), busy(t)
	before := tell(t, other)
	for _, a := range numbers {
		for _, b := range numbers {
			p.Add(a)
			p.Bind(a, b)
			p.Of(b)
			p.Thread(b)
			p.Enter(b)
			p.Loaded()
			p.SetBank(p.Bank())
			p.Read(a, b)
			p.Write(a, b, uint32(b))
			p.Inject(a, b, a, true)
			p.Inject(3, a, b, false)
			p.Vgic(b)
			p.Tick()
			p.Unbind(b)
			p.Drop(b)
			p.Leave()
			New(a)
		}
	}
	if !reflect.DeepEqual(tell(t, other), before) {
		t.Error("others' calls changed something")
	}
}

// Two of them have nothing together, though their numbers are the same.
func TestR6TwoOfThem(t *testing.T) {
	p, other := busy(t), busy(t)
	before := tell(t, other)
	good(t, p.Enter(4), p.SetBank(registers{}), p.Write(3, 0, 9), p.Unbind(3), p.Drop(0), p.Add(9), p.Inject(5, 5, 5, true))
	p.Tick()
	p.Vgic(4).Ack()
	p.Leave()
	if !reflect.DeepEqual(tell(t, other), before) {
		t.Error("another's calls changed something")
	}
	if x := tell(t, made(t, 2)); len(x.All) != 0 || x.Loaded != -1 || x.Bank != (registers{}) {
		t.Errorf("%+v", x)
	}
}
