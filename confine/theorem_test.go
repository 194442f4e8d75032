package confine

import (
	"slices"
	"testing"

	"viceroy/api"
	"viceroy/kernel"
)

// A driven thread maps its first frame of data a second time, to be executed, lets its stream write there, and jumps there: a device writes then what it is to do.
const (
	drivenFrame  = 1 // its slots: of the frame, of its root, of its stream
	drivenRoot   = 2
	drivenStream = 3
	drivenPage   = 8
	drivenAt     = drivenPage * api.FrameBytes
	drivenData   = 1 * api.FrameBytes // where the stream finds that frame
	actionAt     = 9                  // which of its words is no movi
)

const drivenCode = `movi r0, 3
movi r1, 320
movi r6, 2
svc 2
movi r0, 1
movi r1, 194
movi r2, 8
movi r3, 7
svc 2
movi r9, 512
jr r9`

// A guest's first words are a table of its own too, in its page 0: it says the page 5 to be that one, and 6 and 7 to be its data, 7 to be read alone. The guest writes, is told of, turns its table on, and writes again.
const guestCode = `movi r1, 1
jmp 16
word 0x001f0000
word 0x0047004f
movi r3, 64
str r1, [r3 + 0]
movi r5, 31
shl r4, r1, r5
tlbi
hvc 9
msr r4, 0
movi r3, 384
str r5, [r3 + 12]
ldr r2, [r3 + 64]
strb r2, [r3 + 64]
jmp 336`

// rider lets a machine do what dice say, and asks behind each event what chapter 20 says of it.
type rider struct {
	*world
	*dice
	view  api.View
	words []uint32
	tasks map[int]outcome   // what each thread is at
	regs  map[int][8]uint32 // with which registers
	done  map[outcome]int
	bytes map[string]int
}

// outcome is what a syscall came to: of a cap of a kind that was asked by a label.
type outcome struct {
	kind, label int
	e           api.Errno
}

// boot throws a descriptor with a driven thread at least.
func (d *dice) boot() api.Boot {
	for {
		b := api.Boot{Frames: 70 + d.throw(30), Lrs: 1 + d.throw(4), Endpoints: 1 + d.throw(3), Notes: 1 + d.throw(2)}
		for range d.throw(3) {
			b.Table = append(b.Table, api.Turn{Domain: len(b.Table), Ticks: 1 + d.throw(9)})
		}
		for range 1 + d.throw(3) {
			b.Pieces = append(b.Pieces, d.pick(4, 8, 8, 16))
		}
		data := 0
		for n := range d.pick(1, 2, 3, 3, 4, 4) {
			p := d.prog(n, data)
			data += p.Data
			b.Progs = append(b.Progs, p)
		}
		if d.shares(&b); kernel.Check(b) == api.OK {
			return b
		}
	}
}

// prog is the n-th program; ahead of its data others have so many frames.
func (d *dice) prog(n, ahead int) api.Prog {
	p := api.Prog{Priority: 4 + d.throw(3), Handler: d.pick(4, 5, 6, 9, 0), Data: 1 + d.throw(2), Code: code(drivenCode)}
	p.Shares = []api.Share{{Kind: api.Frame, N: ahead, Rights: 7}, {Kind: api.Table, N: n}, {Kind: api.Stream, N: n}}
	if n > 0 && d.throw(3) == 0 {
		p.Guest, p.Code, p.Shares = true, code(guestCode), []api.Share{{Kind: api.Endpoint, Rights: 11}, {Kind: api.Endpoint, Rights: 3}, {Kind: api.Endpoint, Rights: 11}}
	}
	if d.throw(9) == 0 {
		p.Domain = 1
	}
	p.Shares = append(p.Shares, api.Share{Kind: api.Endpoint, N: 0, Rights: 11, Badge: n})
	return p
}

// shares throws more of them, and keeps those that may be.
func (d *dice) shares(b *api.Boot) {
	for i := range b.Progs {
		p := &b.Progs[i]
		for n := i + 1; n < len(b.Progs); n++ {
			p.Shares = append(p.Shares, api.Share{Kind: api.CNode, N: n})
		}
		for range 14 {
			s := api.Share{Kind: d.pick(1, 1, 1, 3, 3, 4, 5, 6, 7, 8, 8, 9, 10), N: d.throw(5)}
			switch s.Kind {
			case api.Endpoint:
				s.Rights, s.Badge = d.pick(11, 11, 3, 2, 1), d.throw(3)
			case api.Note:
				s.Rights, s.Badge = d.pick(3, 3, 2, 1), d.throw(5)
			case api.Frame:
				s.Rights = d.pick(7, 3, 1, 5)
			}
			p.Shares = append(p.Shares, s)
			if kernel.Check(*b) != api.OK || len(p.Shares) > 10 {
				p.Shares = p.Shares[:len(p.Shares)-1]
			}
		}
	}
}

// isGuest tells whether a thread is one of the boot's guests.
func (r *rider) isGuest(t int) bool {
	for i, n := range r.Threads() {
		if n == t {
			return r.b.Progs[i].Guest
		}
	}
	return false
}

// changed tells the bytes that are not as they were.
func (r *rider) changed() []int {
	var at []int
	for n, was := range r.words {
		w, e := r.Load(4*n, 4)
		if e != api.OK {
			r.t.Fatal("the memory ends")
		}
		for i := 0; w != was && i < 4; i++ {
			if (w^was)>>(8*i)&255 != 0 {
				at = append(at, 4*n+i)
			}
		}
		r.words[n] = w
	}
	return at
}

// event lets one come, and asks what always holds.
func (r *rider) event(e api.Event) (int, api.Errno) {
	before, t := r.view, r.Current()
	n, err := r.Event(e)
	r.bytes["events"]++
	changed := r.changed()
	r.view = See(r.Kernel)
	if rule := Check(r.b, r.view); rule != 0 {
		r.t.Fatalf("behind %+v (%d, %v) the rule %d does not hold: %+v", e, n, err, rule, r.view)
	}
	if r.Units() > api.UnitsAnEvent {
		r.t.Fatal("units: ", r.Units())
	}
	isCall := e.Kind == api.EvStep && n == api.TrapSvc && !r.isGuest(t)
	if !isCall {
		r.samePages(before, e)
	}
	for _, at := range changed {
		r.testByte(e, isCall, t, at, before)
	}
	if e.Kind == api.EvDma && len(changed) > 1 {
		r.t.Fatal("a device changed bytes: ", changed)
	}
	return n, err
}

// samePages: what is mapped, and who has it, hangs on syscalls alone.
func (r *rider) samePages(before api.View, e api.Event) {
	v := r.view
	if !slices.Equal(v.Maps, before.Maps) || !slices.Equal(v.Tables, before.Tables) || !slices.Equal(v.Slots, before.Slots) || !slices.Equal(v.Regions, before.Regions) {
		r.t.Fatalf("%+v changed pages: %+v\n%+v", e, before, v)
	}
}

// testByte asks whether an event may have changed a byte. May and Device are asked behind it: it has changed no page, if they are asked.
func (r *rider) testByte(e api.Event, isCall bool, t, at int, before api.View) {
	frame := at / api.FrameBytes
	who, may := "", false
	switch {
	case isCall:
		who = "a table"
		if may = slices.Contains(before.Tables, frame) || slices.Contains(r.view.Tables, frame); !may {
			who, may = "a reset", r.wasReset(frame, at, before)
		}
	case e.Kind == api.EvStep && r.isGuest(t):
		who, may = "a guest", May(r.Kernel, t, frame, api.Write)
	case e.Kind == api.EvStep:
		who, may = "a thread", May(r.Kernel, t, frame, api.Write)
	case e.Kind == api.EvDma:
		who, may = "a device", e.Write && at%api.FrameBytes == e.At%api.FrameBytes && Device(r.Kernel, e.N, frame, api.Write)
	}
	if !may {
		r.t.Fatalf("%+v of %d changed the byte %d: %+v", e, t, at, before)
	}
	r.bytes[who]++
}

// wasReset tells whether a frame had been given, came back, and is noughts.
func (r *rider) wasReset(frame, at int, before api.View) bool {
	w, _ := r.Load(at, 1)
	for _, g := range before.Regions {
		if w == 0 && frame >= g.First && frame < g.First+g.Mark {
			return true
		}
	}
	return false
}

// write lets a thread's stream write words where it does what stands there; false, if it cannot.
func (r *rider) write(t int, words []uint32) bool {
	stream := -1
	for i, n := range r.Threads() {
		if n == t {
			stream = i
		}
	}
	for n, w := range words {
		for i := range 4 {
			at := drivenData + 4*n + i
			was, _ := r.Load(r.frameOf(r.Stream(stream))+4*n+i, 1)
			if w>>(8*i)&255 == was {
				continue
			}
			e := api.Event{Kind: api.EvDma, N: stream, At: at, Write: true, Value: w >> (8 * i) & 255}
			if n, err := r.event(e); err != api.OK || n != int(e.Value) {
				return false
			}
		}
	}
	return true
}

// frameOf is the address of the frame that is a space's page of data.
func (r *rider) frameOf(vmid int) int {
	for _, m := range r.Mappings(vmid) {
		if m.Page == drivenData/api.FrameBytes {
			return m.Frame * api.FrameBytes
		}
	}
	return -1
}

// slots are those of a node that have a cap of a kind (below 0: any; 0: none).
func (r *rider) slots(node, kind int) []int {
	var all []int
	for n := range 16 {
		c, e := r.Slot(api.Ref{Node: node, Index: n})
		if e == api.OK && (c.Kind == kind || kind < 0 && c.Kind != api.Null) {
			all = append(all, n)
		}
	}
	return all
}

// one is one of a list, now and then, or if it is empty, any slot.
func (r *rider) one(l []int) uint32 {
	if len(l) == 0 || r.throw(20) == 0 {
		return uint32(r.throw(17))
	}
	return uint32(r.pick(l...))
}

// asked is what caps can be asked for: of which kind, by which label, with which other cap (below 0: any).
var asked = [][3]int{
	{1, 1, 2}, {1, 1, 2}, {1, 1, 2}, {1, 1, 2}, {2, 2, -1}, {2, 2, -1}, {2, 3, -1}, {2, 3, -1}, {2, 4, -1}, {2, 5, 0}, {2, 6, 0}, {3, 7, 0}, {3, 8, 0}, {3, 8, 0}, {3, 9, 0},
	{3, 10, 0}, {3, 11, 0}, {6, 12, 7}, {6, 12, 7}, {6, 13, 0}, {7, 14, 7}, {7, 15, 0}, {7, 16, 0}, {8, 17, 0}, {8, 18, 0}, {8, 19, 0}, {9, 20, 7}, {9, 21, 0}, {10, 22, 5}, {10, 23, 0},
}

// task throws what a thread does next: seven registers from 0 on, where it loads and stores, and what it does with them.
func (r *rider) task(t int) (regs [8]uint32, action uint32, what outcome) {
	node := r.Node(t)
	regs = r.regs[t]
	// What stays as it was need not be written again.
	for i := range regs {
		if r.throw(4) == 0 {
			regs[i] = uint32(r.pick(0, 1, 2, 3, 5, 7, 8, 15, 16, 32, 64, 100, 1023))
		}
	}
	regs[6], regs[7] = uint32(r.pick(0, 0, 1+r.throw(15))), uint32(r.throw(16))
	switch n := r.throw(20); {
	case n < 13:
		x := asked[r.throw(len(asked))]
		for i := 0; i < 40 && len(r.slots(node, x[0])) == 0; i++ {
			x = asked[r.throw(len(asked))]
		}
		what = outcome{kind: x[0], label: x[1]}
		regs[0] = r.one(r.slots(node, x[0]))
		regs[1] = uint32(16*x[1] + 4)
		regs[6] = r.one(r.slots(node, x[2]))
		r.ask(node, x, &regs)
		if r.isDeadly(t, x, regs) && r.throw(30) > 0 {
			return r.task(t)
		}
		return regs, 0x12000000 + uint32(r.pick(api.SysSend, api.SysNBSend)), what
	case n < 18:
		kind := r.pick(api.Endpoint, api.Endpoint, api.Note)
		call := r.pick(3, 3, 3, 5, 5, 5, 6, 6, 8, 99)
		if r.awake() > 1 && r.throw(2) == 0 || r.throw(60) == 0 {
			call = r.pick(1, 2, 4, 7)
		}
		regs[0], regs[1] = r.one(r.slots(node, kind)), uint32(16*r.pick(0, 0, 0, 1, 7)+r.pick(0, 1, 1, 2, 4))
		if call == api.SysReply || call == api.SysReplyRecv {
			// A guest goes on there; with its own table that is its page 5.
			regs[2] = uint32(r.pick(0, 320) + 16 + 4*r.throw(12))
		}
		return regs, 0x12000000 + uint32(call), outcome{kind: kind}
	}
	return regs, r.access(), outcome{}
}

// awake is how many threads could run.
func (r *rider) awake() int {
	n := 0
	for _, t := range r.view.Threads {
		if t.Awake {
			n++
		}
	}
	return n
}

// isDeadly tells whether an operation takes away what a driven thread is driven by, or lets a thread wait for ever.
func (r *rider) isDeadly(t int, x [3]int, regs [8]uint32) bool {
	isOwn := regs[0] >= drivenFrame && regs[0] <= drivenStream
	c, _ := r.Slot(api.Ref{Node: r.Node(t), Index: int(regs[0]) % 16})
	switch x[1] {
	case api.DoSuspend:
		return r.awake() < 3 || c.Obj == t
	case api.DoUnmap, api.DoUnTable, api.DoDetach:
		return isOwn
	case api.DoDelete, api.DoRevoke:
		return regs[2] <= drivenStream
	case api.DoMove:
		return regs[6] <= drivenStream
	case api.DoWriteReg:
		return !r.isGuest(c.Obj) && regs[2] == 16
	}
	return false
}

// access is an instruction that mostly loads or stores; the register 8 says where.
func (r *rider) access() uint32 {
	if r.throw(9) == 0 {
		return r.one32(0x07280001, 0x0828012c, 0x0a28012c, 0x15000000, 0x11000003, 0x18000000, 0)
	}
	return r.one32(0x07280000, 0x08280000, 0x08280008, 0x09280003, 0x0a280000, 0x0a28003f)
}

func (r *rider) one32(l ...uint32) uint32 { return l[r.throw(len(l))] }

// ask throws the words that an operation wants, so that most of it can be done.
func (r *rider) ask(node int, x [3]int, regs *[8]uint32) {
	c, _ := r.Slot(api.Ref{Node: node, Index: int(regs[0]) % 16})
	other, _ := r.Slot(api.Ref{Node: node, Index: int(regs[6]) % 16})
	switch x[1] {
	case api.DoRetype:
		regs[2], regs[3], regs[4], regs[5] = uint32(r.pick(1, 2, 4, 5, 6, 6, 6, 7, 7)), 1, r.one(r.slots(other.Obj, api.Null)), uint32(r.pick(1, 1, 1, 2, 3, 8))
		if regs[2] == api.Untyped {
			regs[3] = uint32(r.pick(1, 2, 4))
		}
	case api.DoCopy, api.DoMint, api.DoMove:
		regs[2], regs[3], regs[4] = r.one(r.slots(c.Obj, api.Null)), uint32(r.pick(15, 7, 3, 1)), uint32(r.pick(0, 0, 3))
	case api.DoDelete, api.DoRevoke:
		regs[2] = r.one(r.slots(c.Obj, r.pick(-1, -1, api.CNode, api.Untyped, api.Untyped, api.Frame)))
	case api.DoWriteReg:
		regs[2] = uint32(r.pick(3, 3, 16, 16, r.throw(18)))
		regs[3] = uint32(r.pick(0, 4*r.throw(16), 320+4*r.throw(16), 64, 384, drivenAt))
	case api.DoMap:
		regs[2], regs[3] = uint32(r.pick(3, 4, 5, 31, 32, 40, 64, 70, 1023)), uint32(r.pick(1, 3, 5, 7, 7))
	case api.DoMapTable:
		regs[2] = uint32(r.pick(32, 40, 64, 70, 1023, 0))
	case api.DoInject:
		regs[2], regs[3] = uint32(r.throw(65)), uint32(r.throw(257))
	case api.DoReadSys, api.DoWriteSys:
		regs[2], regs[3] = uint32(r.pick(0, 0, 1, 2, 3, 4, 8)), r.one32(0, 1<<31, 5)
	}
}

// taskWords are the words of a task.
func taskWords(regs [8]uint32, at, action uint32) []uint32 {
	var words []uint32
	for n, w := range regs {
		words = append(words, 0x01000000+uint32(n)<<20+w&0xffff)
	}
	return append(words, 0x01800000+at, action, 0x01900000+drivenAt, 0x10090000)
}

// writable is mostly a page of a space that can be written.
func (r *rider) writable(vmid int) int {
	l := r.Mappings(vmid)
	for i := 0; i < 9 && len(l) > 0; i++ {
		if m := l[r.throw(len(l))]; m.Rights&api.Write != 0 && m.Page > 1 && m.Page != drivenPage {
			return m.Page
		}
	}
	return r.pick(1, 1, 1, 1, drivenPage, drivenPage, 0, 2, r.throw(1024))
}

// chance is an event that is no step.
func (r *rider) chance() {
	switch r.throw(6) {
	case 0, 1:
		r.event(api.Event{Kind: api.EvTick})
	case 2:
		r.event(api.Event{Kind: api.EvIrq, N: r.throw(4)})
	case 3:
		r.event(api.Event{Kind: api.EvEvict, N: r.throw(8)})
	default:
		n := r.throw(6)
		at := r.writable(r.Stream(n))*api.FrameBytes + r.throw(api.FrameBytes)
		r.event(api.Event{Kind: api.EvDma, N: n, At: at, Write: r.throw(3) > 0, Value: uint32(r.throw(256))})
	}
}

// ride lets the current thread do its next task, or a guest an instruction or some; false, if nobody runs.
func (r *rider) ride() bool {
	t := r.Current()
	if t < 0 {
		return false
	}
	c, _ := r.Cpu(t)
	if !r.isGuest(t) && c.Pc == drivenAt {
		regs, action, what := r.task(t)
		at := r.writable(r.Vmid(t)) * api.FrameBytes
		if r.tasks[t], r.regs[t] = what, regs; !r.write(t, taskWords(regs, uint32(at), action)) {
			r.tasks[t] = outcome{}
		}
	}
	for range 1 + actionAt {
		n, e := r.event(api.Event{Kind: api.EvStep, At: r.throw(8)})
		if n == api.TrapSvc && !r.isGuest(t) {
			x := r.tasks[t]
			x.e = e
			r.done[x]++
		}
		if r.throw(12) == 0 {
			r.chance()
		}
		if c, _ := r.Cpu(t); r.Current() != t || c.Pc == drivenAt {
			break
		}
	}
	return true
}

func newRider(w *world, d *dice) *rider {
	w.t.Helper()
	r := &rider{world: w, dice: d, view: See(w.Kernel), words: make([]uint32, w.Frames()*api.FrameBytes/4)}
	r.tasks, r.regs = map[int]outcome{}, map[int][8]uint32{}
	r.done, r.bytes = map[outcome]int{}, map[string]int{}
	r.changed()
	if n := Check(r.b, r.view); n != 0 {
		w.t.Fatal("at the beginning: ", n)
	}
	return r
}

// TestTheorem asks of thrown machines, behind each event, what chapter 20 says always holds, and which bytes the event changed.
func TestTheorem(t *testing.T) {
	done, bytes := map[outcome]int{}, map[string]int{}
	for seed := range 90 {
		d := &dice{uint64(seed)}
		r := newRider(start(t, d.boot()), d)
		r.done, r.bytes = done, bytes
		for range 30 {
			for i := 0; i < 30 && r.ride(); i++ {
			}
			r.event(api.Event{Kind: api.EvTick})
		}
	}
	for _, x := range asked {
		if done[outcome{x[0], x[1], api.OK}] == 0 {
			t.Error("never done: ", x)
		}
	}
	for _, who := range []string{"a table", "a thread", "a guest", "a device"} {
		if bytes[who] == 0 {
			t.Error("no byte was changed by ", who)
		}
	}
}

// TestReset lets a frame be made, mapped, written, deleted, and made again: it is noughts then, and the same one.
func TestReset(t *testing.T) {
	b := api.Boot{Frames: 32, Lrs: 1, Pieces: []int{4}, Progs: []api.Prog{
		{Priority: 5, Shares: []api.Share{{Kind: api.Untyped}, {Kind: api.CNode, N: 1}}, Code: code(
			"movi r0, 1\nmovi r1, 20\nmovi r2, 6\nmovi r3, 1\nmovi r5, 1\nmovi r6, 2\nsvc 2\nwfi\n" + // a frame, in the second one's slot 0
				"movi r0, 2\nmovi r1, 81\nmovi r2, 0\nsvc 2\n" + // it is deleted
				"movi r0, 1\nmovi r1, 20\nmovi r2, 6\nsvc 2")}, // and made again
		{Priority: 5, Shares: []api.Share{{Kind: api.Table, N: 1}}, Code: code(
			"movi r1, 194\nmovi r2, 3\nmovi r3, 3\nmovi r6, 1\nsvc 2\nmovi r8, 192\nstr r8, [r8 + 4]\nwfi")},
	}}
	r := newRider(start(t, b), &dice{})
	const frame = 12
	ride := func(steps int, word uint32, mark, pages int) {
		t.Helper()
		for range steps {
			if cause, e := r.event(api.Event{Kind: api.EvStep}); e != api.OK {
				t.Fatal(cause, e)
			}
		}
		if w, _ := r.Load(frame*api.FrameBytes+4, 4); w != word || r.view.Regions[0].Mark != mark || len(r.view.Maps) != pages {
			t.Error(w, r.view.Regions, r.view.Maps)
		}
	}
	ride(8, 0, 1, 2)
	ride(8, 192, 1, 3)
	ride(4, 192, 1, 2)
	ride(4, 0, 1, 2)
	if r.bytes["a reset"] != 1 || r.bytes["a thread"] != 1 || r.view.Slots[3].Cap.Obj != frame {
		t.Error(r.bytes, r.view.Slots)
	}
}
