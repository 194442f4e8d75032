package vcpu

import (
	"reflect"
	"slices"
	"testing"

	"viceroy/api"
	"viceroy/vgic"
)

// dice throws the same numbers in each run.
type dice struct{ x uint64 }

func (d *dice) throw(n int) int {
	d.x = d.x*6364136223846793005 + 1442695040888963407
	return int(d.x >> 33 % uint64(n))
}

func (d *dice) pick(l ...int) int { return l[d.throw(len(l))] }

// own is a virtual processor of the model: its registers are its own, wherever it is.
type own struct {
	id, thread int
	sys        registers
	v          *vgic.Vgic
}

// model is what the chapter comes to, told in another way: it has no bank, and exchanges nothing.
type model struct {
	all    []*own
	loaded *own
}

func (m *model) find(id int) *own {
	for _, x := range m.all {
		if x.id == id {
			return x
		}
	}
	return nil
}

func (m *model) of(thread int) *own {
	for _, x := range m.all {
		if x.thread == thread && thread >= 0 {
			return x
		}
	}
	return nil
}

func (m *model) add(id int) api.Errno {
	switch {
	case id < 0 || id > 1023:
		return api.ErrArg
	case m.find(id) != nil:
		return api.ErrFull
	}
	v, _ := vgic.New(2)
	m.all = append(m.all, &own{id: id, thread: -1, sys: registers{6: uint32(id)}, v: v})
	return api.OK
}

func (m *model) drop(x *own) api.Errno {
	m.all = slices.DeleteFunc(m.all, func(y *own) bool { return x == y })
	if m.loaded == x {
		m.loaded = nil
	}
	return api.OK
}

func (m *model) bind(x *own, thread int) api.Errno {
	switch {
	case thread < 0 || thread > 1023:
		return api.ErrArg
	case x.thread != -1 || m.of(thread) != nil:
		return api.ErrBound
	}
	x.thread = thread
	return api.OK
}

func (m *model) unbind(x *own) api.Errno {
	if x.thread == -1 {
		return api.ErrBound
	}
	x.thread = -1
	return api.OK
}

func (m *model) setBank(b registers) api.Errno {
	if m.loaded == nil {
		return api.ErrIdle
	}
	for n := range 6 {
		m.loaded.sys[n] = b[n]
	}
	return api.OK
}

func (m *model) write(x *own, n int, w uint32) api.Errno {
	if n < 0 || n > 5 {
		return api.ErrArg
	}
	x.sys[n] = w
	return api.OK
}

func (m *model) tick() bool {
	if m.loaded == nil {
		return false
	}
	m.loaded.sys[5]++
	return m.loaded.sys[3] != 0 && m.loaded.sys[5] == m.loaded.sys[3] && m.loaded.v.Inject(27, 10, false) == api.OK
}

// tell is all that one like that would tell.
func (m *model) tell() told {
	x := told{Loaded: -1, All: map[int]seen{}, Of: map[int]int{}}
	for _, y := range m.all {
		x.All[y.id] = seen{Thread: y.thread, Sys: y.sys, Lines: linesOf(y.v)}
		if y.thread >= 0 {
			x.Of[y.thread] = y.id
		}
	}
	if m.loaded != nil {
		x.Loaded, x.Bank = m.loaded.id, m.loaded.sys
	}
	return x
}

// call is one of those that change something, by its name, with its arguments.
type call struct {
	what  string
	id, n int
	w     uint32
}

// reply is what a call answers, as far as it has that.
type reply struct {
	e  api.Errno
	n  int
	ok bool
}

func (c call) bank() registers {
	return registers{c.w, uint32(c.n), c.w + 1, c.w % 4, 9, uint32(c.n) % 4, 50, 51}
}

func (c call) on(p *Vcpus) reply {
	switch c.what {
	case "add":
		return reply{e: p.Add(c.id)}
	case "drop":
		return reply{e: p.Drop(c.id)}
	case "bind":
		return reply{e: p.Bind(c.id, c.n)}
	case "unbind":
		return reply{e: p.Unbind(c.id)}
	case "enter":
		return reply{e: p.Enter(c.id)}
	case "leave":
		p.Leave()
	case "bank":
		return reply{e: p.SetBank(c.bank())}
	case "write":
		return reply{e: p.Write(c.id, c.n, c.w)}
	case "inject":
		return reply{e: p.Inject(c.id, c.n, int(c.w%260), c.w%2 == 0)}
	case "tick":
		return reply{ok: p.Tick()}
	default:
		return c.guest(p.Vgic(c.id))
	}
	return reply{}
}

func (c call) onModel(m *model) reply {
	x := m.find(c.id)
	switch c.what {
	case "add":
		return reply{e: m.add(c.id)}
	case "leave":
		m.loaded = nil
		return reply{}
	case "bank":
		return reply{e: m.setBank(c.bank())}
	case "tick":
		return reply{ok: m.tick()}
	case "ack", "end":
		if x == nil {
			return reply{n: -1}
		}
		return c.guest(x.v)
	}
	if x == nil {
		return reply{e: api.ErrVcpu}
	}
	switch c.what {
	case "drop":
		return reply{e: m.drop(x)}
	case "bind":
		return reply{e: m.bind(x, c.n)}
	case "unbind":
		return reply{e: m.unbind(x)}
	case "enter":
		m.loaded = x
		return reply{}
	case "write":
		return reply{e: m.write(x, c.n, c.w)}
	default:
		return reply{e: x.v.Inject(c.n, int(c.w%260), c.w%2 == 0)}
	}
}

// guest is what a guest does to its own interrupts.
func (c call) guest(v *vgic.Vgic) reply {
	if v == nil {
		return reply{n: -1}
	}
	if c.what == "ack" {
		return reply{n: v.Ack()}
	}
	level, e := v.End(c.n)
	return reply{e: e, ok: level}
}

// TestB8RowsOfCalls holds thrown rows against the model, which has no bank.
func TestB8RowsOfCalls(t *testing.T) {
	d := dice{x: 18}
	kinds := []string{"add", "add", "drop", "bind", "bind", "unbind", "enter", "enter", "enter", "leave", "bank", "bank", "write", "write", "inject", "tick", "tick", "tick", "ack", "end"}
	for range 60 {
		p, m := made(t, 2), &model{}
		many, base := 1+d.throw(6), d.pick(0, 3, 1020)
		var row []call
		for range 150 {
			c := call{what: kinds[d.throw(len(kinds))], id: base + d.throw(many), n: d.throw(8), w: uint32(d.throw(6))}
			switch d.throw(10) {
			case 0:
				c.id, c.n = d.pick(-1, 1024, c.id), d.pick(-1, 8, 63, 64, 1023, 1024)
			case 1:
				c.w = uint32(d.throw(1 << 31))
			}
			if c.what == "end" || c.what == "inject" {
				c.n = d.pick(c.n, 27)
			}
			row = append(row, c)
			if got, want := c.on(p), c.onModel(m); got != want {
				t.Fatalf("behind %+v: %+v; want %+v", row, got, want)
			}
		}
		if got, want := tell(t, p), m.tell(); !reflect.DeepEqual(got, want) {
			t.Fatalf("behind %+v:\n%+v\nwant\n%+v", row, got, want)
		}
	}
}

// small is what can be told of 3 and 4, and of the threads 7 and 8, as a value.
type small struct {
	loaded, bank int
	of           [2]int
	each         [2]struct {
		there  bool
		thread int
		sys    registers
		many   [3]int
		next   int
	}
}

// folded is a bank's registers in one number; each is small.
func folded(b registers) int {
	n := 0
	for _, w := range b {
		n = n*64 + int(w)
	}
	return n
}

func (x *small) one(k, thread int, sys registers, v *vgic.Vgic) {
	y := &x.each[k]
	y.there, y.thread, y.sys = true, thread, sys
	y.many[0], y.many[1], y.many[2] = v.Counts()
	y.next, _ = v.Next()
}

func brief(t *testing.T, p *Vcpus) small {
	x := small{loaded: p.Loaded(), bank: folded(p.Bank()), of: [2]int{p.Of(7), p.Of(8)}}
	for k := range x.each {
		if v := p.Vgic(3 + k); v != nil {
			x.one(k, p.Thread(3+k), sysOf(t, p, 3+k), v)
		}
	}
	return x
}

func (m *model) brief() small {
	x := small{loaded: -1, of: [2]int{-1, -1}}
	if m.loaded != nil {
		x.loaded, x.bank = m.loaded.id, folded(m.loaded.sys)
	}
	for _, y := range m.all {
		x.one(y.id-3, y.thread, y.sys, y.v)
		if y.thread >= 0 {
			x.of[y.thread-7] = y.id
		}
	}
	return x
}

// TestB8AllShortRows goes over each row of four calls, from two beginnings.
func TestB8AllShortRows(t *testing.T) {
	all := []call{{what: "leave"}, {what: "bank", n: 3, w: 6}, {what: "tick"}}
	for id := 3; id <= 4; id++ {
		all = append(all, call{what: "add", id: id}, call{what: "drop", id: id}, call{what: "unbind", id: id}, call{what: "enter", id: id},
			call{what: "bind", id: id, n: 7}, call{what: "write", id: id, n: 3, w: 1}, call{what: "ack", id: id})
	}
	all = append(all, call{what: "bind", id: 3, n: 8}, call{what: "inject", id: 3, n: 27, w: 4})
	const long = 4
	many := 1
	for range long {
		many *= len(all)
	}
	for _, before := range [][]call{nil, {{what: "add", id: 3}, {what: "add", id: 4}, {what: "bind", id: 4, n: 8}, {what: "enter", id: 3}, {what: "bank", w: 5}}} {
		for number := range many {
			p, m := made(t, 2), &model{}
			row := slices.Clone(before)
			for n := number; len(row) < len(before)+long; n /= len(all) {
				row = append(row, all[n%len(all)])
			}
			for _, c := range row {
				if got, want := c.on(p), c.onModel(m); got != want {
					t.Fatalf("%+v: %+v; want %+v", row, got, want)
				}
			}
			if x, y := brief(t, p), m.brief(); x != y {
				t.Fatalf("behind %+v: %+v; want %+v", row, x, y)
			}
		}
	}
}

// R6: the same calls answer the same, and leave the same.
func TestR6SameAgain(t *testing.T) {
	d := dice{x: 6}
	kinds := []string{"add", "drop", "bind", "unbind", "enter", "leave", "bank", "write", "inject", "tick", "ack", "end"}
	for range 20 {
		one, two := made(t, 3), made(t, 3)
		for id := range 30 {
			good(t, one.Add(id), two.Add(id))
		}
		for range 300 {
			c := call{what: kinds[d.throw(len(kinds))], id: d.throw(30), n: d.throw(30), w: uint32(d.throw(9))}
			if a, b := c.on(one), c.on(two); a != b {
				t.Fatalf("%+v: %+v and %+v", c, a, b)
			}
		}
		if !reflect.DeepEqual(tell(t, one), tell(t, two)) {
			t.Fatal("the same calls left something else")
		}
	}
}
