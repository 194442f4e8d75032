package ipc

import (
	"cmp"
	"slices"
	"testing"

	"viceroy/api"
)

// dice throws the same numbers in each run.
type dice struct{ x uint64 }

func (d *dice) throw(n int) int {
	d.x = d.x*6364136223846793005 + 1442695040888963407
	return int(d.x >> 33 % uint64(n))
}

func (d *dice) pick(l ...int) int { return l[d.throw(len(l))] }

// person is a thread of the model. It stands in no queue: since when it waits tells who is first.
type person struct {
	state, on int
	since     int
	message   api.Message
	call      bool
	caller    int
	bound     int
	inbox     []api.Message // none, or one
}

// bell is a notification of the model: what it was signalled, one by one.
type bell struct {
	rung  []int
	bound int
}

// model is what the chapter says, told in another way: lists of persons and bells, which are gone through each time. It has the first sixteen alone.
type model struct {
	people [16]person
	bells  [16]bell
	now    int
}

func newModel() *model {
	m := &model{}
	for i := range m.people {
		m.people[i] = person{on: -1, caller: -1, bound: -1}
		m.bells[i].bound = -1
	}
	return m
}

func may(l ...int) bool {
	for _, n := range l {
		if n < 0 || n > 1023 {
			return false
		}
	}
	return true
}

func mayBe(m api.Message) bool {
	ok := m.Label >= 0 && m.Label <= 1048575 && m.Badge >= 0 && m.Badge <= 1048575 && m.Many >= 0 && m.Many <= 4
	for i, w := range m.Words {
		ok = ok && (i < m.Many || w == 0)
	}
	return ok
}

// those are who waits so, in order.
func (m *model) those(state, on int) []int {
	var l []int
	for i, p := range m.people {
		if p.state == state && p.on == on {
			l = append(l, i)
		}
	}
	slices.SortFunc(l, func(a, b int) int { return cmp.Compare(m.people[a].since, m.people[b].since) })
	return l
}

func (m *model) stand(t, state, on int) {
	m.now++
	p := &m.people[t]
	p.state, p.on, p.since = state, on, m.now
}

func (m *model) free(t int) { m.stand(t, 0, -1) }

func (m *model) give(t int, x api.Message) { m.people[t].inbox = []api.Message{x} }

func (m *model) hear(note, t int) {
	sum := 0
	for _, b := range m.bells[note].rung {
		sum |= b
	}
	m.bells[note].rung = nil
	m.give(t, api.Message{Badge: sum})
}

func (m *model) send(ep, t int, x api.Message, call, block bool) (int, api.Errno) {
	if !may(ep, t) || !mayBe(x) {
		return -1, api.ErrArg
	}
	if m.people[t].state != 0 {
		return -1, api.ErrThread
	}
	l := m.those(api.BlockedRecv, ep)
	switch {
	case len(l) > 0:
		m.free(l[0])
		m.give(l[0], x)
		if call {
			m.stand(t, api.BlockedReply, l[0])
			m.people[l[0]].caller = t
		}
		return l[0], api.OK
	case block:
		m.stand(t, api.BlockedSend, ep)
		m.people[t].message, m.people[t].call = x, call
	}
	return -1, api.OK
}

func (m *model) recv(ep, t int, block bool) (int, bool, api.Errno) {
	if !may(ep, t) {
		return -1, false, api.ErrArg
	}
	if m.people[t].state != 0 {
		return -1, false, api.ErrThread
	}
	m.forget(t)
	if n := m.people[t].bound; n >= 0 && len(m.bells[n].rung) > 0 {
		m.hear(n, t)
		return -1, true, api.OK
	}
	l := m.those(api.BlockedSend, ep)
	if len(l) == 0 {
		if block {
			m.stand(t, api.BlockedRecv, ep)
		}
		return -1, false, api.OK
	}
	s := l[0]
	m.give(t, m.people[s].message)
	if m.people[s].call {
		m.stand(s, api.BlockedReply, t)
		m.people[t].caller = s
		return -1, true, api.OK
	}
	m.free(s)
	return s, true, api.OK
}

func (m *model) reply(t int, x api.Message) (int, api.Errno) {
	if !may(t) || !mayBe(x) {
		return -1, api.ErrArg
	}
	c := m.people[t].caller
	if c < 0 {
		return -1, api.ErrReply
	}
	m.people[t].caller = -1
	m.free(c)
	m.give(c, api.Message{Label: x.Label, Many: x.Many, Words: x.Words})
	return c, api.OK
}

func (m *model) forget(t int) int {
	if !may(t) || m.people[t].caller < 0 {
		return -1
	}
	c := m.people[t].caller
	m.people[t].caller = -1
	m.stand(c, api.BlockedReply, -1)
	return c
}

func (m *model) signal(note, badge int) (int, api.Errno) {
	if !may(note) || badge < 0 || badge > 1048575 {
		return -1, api.ErrArg
	}
	l := m.those(api.BlockedNote, note)
	if b := m.bells[note].bound; b >= 0 && m.people[b].state == api.BlockedRecv {
		l = append(l, b)
	}
	if len(l) == 0 {
		m.bells[note].rung = append(m.bells[note].rung, badge)
		return -1, api.OK
	}
	m.free(l[0])
	m.give(l[0], api.Message{Badge: badge})
	return l[0], api.OK
}

func (m *model) wait(note, t int, block bool) (bool, api.Errno) {
	if !may(note, t) {
		return false, api.ErrArg
	}
	if m.people[t].state != 0 {
		return false, api.ErrThread
	}
	if len(m.bells[note].rung) > 0 {
		m.hear(note, t)
		return true, api.OK
	}
	if block {
		m.stand(t, api.BlockedNote, note)
	}
	return false, api.OK
}

func (m *model) bind(note, t int) api.Errno {
	switch {
	case !may(note, t):
		return api.ErrArg
	case m.people[t].bound >= 0, m.bells[note].bound >= 0, len(m.those(api.BlockedNote, note)) > 0:
		return api.ErrFull
	}
	m.people[t].bound, m.bells[note].bound = note, t
	return api.OK
}

func (m *model) unbind(t int) api.Errno {
	switch {
	case !may(t):
		return api.ErrArg
	case m.people[t].bound < 0:
		return api.ErrEmpty
	}
	m.bells[m.people[t].bound].bound = -1
	m.people[t].bound = -1
	return api.OK
}

func (m *model) cancel(t int) bool {
	if !may(t) || m.people[t].state == 0 {
		return false
	}
	m.free(t)
	for i := range m.people {
		if m.people[i].caller == t {
			m.people[i].caller = -1
		}
	}
	return true
}

func (m *model) cancelAll(ep int) []int {
	l := m.waiting(ep)
	for _, t := range l {
		m.free(t)
	}
	return l
}

func (m *model) cancelBadged(ep, badge int) []int {
	var l []int
	for _, t := range m.those(api.BlockedSend, ep) {
		if m.people[t].message.Badge == badge {
			m.free(t)
			l = append(l, t)
		}
	}
	return l
}

func (m *model) waiting(ep int) []int {
	return append(m.those(api.BlockedSend, ep), m.those(api.BlockedRecv, ep)...)
}

func (m *model) lit(note int) (int, bool) {
	sum := 0
	for _, b := range m.bells[note].rung {
		sum |= b
	}
	return sum, len(m.bells[note].rung) > 0
}

func (m *model) inbox(t int) (api.Message, bool) {
	if !may(t) || len(m.people[t].inbox) == 0 {
		return api.Message{}, false
	}
	x := m.people[t].inbox[0]
	m.people[t].inbox = nil
	return x, true
}

// call is one of the calls that change something, by its number, with its arguments.
type call struct {
	what, on, t int
	m           api.Message
	call, block bool
}

// outcome is what it told, of whichever call.
type outcome struct {
	who int
	got bool
	m   api.Message
	e   api.Errno
}

const (
	doSend = iota
	doRecv
	doReply
	doForget
	doSignal
	doWait
	doBind
	doUnbind
	doCancel
	doCancelAll
	doCancelBadged
	doInbox
)

// real does it to the one.
func (c call) real(x *Ipc) (a outcome, l []int) {
	switch c.what {
	case doSend:
		a.who, a.e = x.Send(c.on, c.t, c.m, c.call, c.block)
	case doRecv:
		a.who, a.got, a.e = x.Recv(c.on, c.t, c.block)
	case doReply:
		a.who, a.e = x.Reply(c.t, c.m)
	case doForget:
		a.who = x.Forget(c.t)
	case doSignal:
		a.who, a.e = x.Signal(c.on, c.m.Badge)
	case doWait:
		a.got, a.e = x.Wait(c.on, c.t, c.block)
	case doBind:
		a.e = x.Bind(c.on, c.t)
	case doUnbind:
		a.e = x.Unbind(c.t)
	case doCancel:
		a.got = x.Cancel(c.t)
	case doCancelAll:
		l = x.CancelAll(c.on)
	case doCancelBadged:
		l = x.CancelBadged(c.on, c.m.Badge)
	case doInbox:
		a.m, a.got = x.Inbox(c.t)
	}
	return a, l
}

// modelled does it to the other.
func (c call) modelled(x *model) (a outcome, l []int) {
	switch c.what {
	case doSend:
		a.who, a.e = x.send(c.on, c.t, c.m, c.call, c.block)
	case doRecv:
		a.who, a.got, a.e = x.recv(c.on, c.t, c.block)
	case doReply:
		a.who, a.e = x.reply(c.t, c.m)
	case doForget:
		a.who = x.forget(c.t)
	case doSignal:
		a.who, a.e = x.signal(c.on, c.m.Badge)
	case doWait:
		a.got, a.e = x.wait(c.on, c.t, c.block)
	case doBind:
		a.e = x.bind(c.on, c.t)
	case doUnbind:
		a.e = x.unbind(c.t)
	case doCancel:
		a.got = x.cancel(c.t)
	case doCancelAll:
		l = x.cancelAll(c.on)
	case doCancelBadged:
		l = x.cancelBadged(c.on, c.m.Badge)
	case doInbox:
		a.m, a.got = x.inbox(c.t)
	}
	return a, l
}

// agree does a call to both, and asks that they tell the same.
func (c call) agree(t *testing.T, x *Ipc, m *model, row []call) {
	t.Helper()
	a, l := c.real(x)
	b, k := c.modelled(m)
	if a != b || !slices.Equal(l, k) {
		t.Fatalf("behind %+v: %+v: %+v, %v; want %+v, %v", row, c, a, l, b, k)
	}
}

// same asks that the first few of all can be told the same of both, and that P8 holds of it.
func same(t *testing.T, x *Ipc, m *model, few int, row []call) {
	t.Helper()
	for n := range few {
		s, on := x.State(n)
		b, lit := x.Lit(n)
		mb, mlit := m.lit(n)
		if p := m.people[n]; s != p.state || on != p.on || x.Caller(n) != p.caller || b != mb || lit != mlit {
			t.Fatalf("behind %+v: %d: State %d, %d, Caller %d, Lit %d, %v; want %+v, %d, %v", row, n, s, on, x.Caller(n), b, lit, p, mb, mlit)
		}
		if l, k := x.Waiting(n), m.waiting(n); !slices.Equal(l, k) {
			t.Fatalf("behind %+v: Waiting(%d) = %v; want %v", row, n, l, k)
		}
		oneAnswer(t, x, n, row)
		allAlike(t, x, n, row)
	}
}

// oneAnswer asks that who calls waits for one, and that one knows it.
func oneAnswer(t *testing.T, x *Ipc, n int, row []call) {
	t.Helper()
	if s, on := x.State(n); s == api.BlockedReply && on >= 0 && x.Caller(on) != n {
		t.Fatalf("behind %+v: %d waits for %d's answer, whose caller is %d", row, n, on, x.Caller(on))
	}
	if c := x.Caller(n); c >= 0 {
		if s, on := x.State(c); s != api.BlockedReply || on != n {
			t.Fatalf("behind %+v: %d is %d's caller, and waits so: %d, %d", row, c, n, s, on)
		}
	}
}

// allAlike asks that those who wait at an endpoint are all senders, or all receivers.
func allAlike(t *testing.T, x *Ipc, ep int, row []call) {
	t.Helper()
	l := x.Waiting(ep)
	for _, who := range l {
		first, _ := x.State(l[0])
		if s, on := x.State(who); s != first || on != ep || s != api.BlockedSend && s != api.BlockedRecv {
			t.Fatalf("behind %+v: %v wait at %d: %d so: %d, %d", row, l, ep, who, s, on)
		}
	}
}

func anyCall(d *dice, ons, threads int) call {
	c := call{
		what:  d.pick(doSend, doSend, doSend, doSend, doRecv, doRecv, doRecv, doRecv, doReply, doReply, doForget, doSignal, doSignal, doWait, doBind, doUnbind, doCancel, doCancel, doCancelAll, doCancelBadged, doInbox, doInbox),
		on:    d.throw(ons),
		t:     d.throw(threads),
		m:     api.Message{Label: d.throw(5), Badge: d.throw(4), Many: d.throw(5)},
		call:  d.throw(2) == 0,
		block: d.throw(4) > 0,
	}
	for i := range c.m.Many {
		c.m.Words[i] = uint32(d.throw(3))
	}
	if d.throw(25) == 0 {
		c.on, c.t = d.pick(c.on, -1, 1024), d.pick(c.t, -1, 1024)
		c.m.Badge, c.m.Many = d.pick(c.m.Badge, -1, 1<<20), d.pick(c.m.Many, -1, 0, 5)
	}
	return c
}

func TestRowsOfCalls(t *testing.T) {
	d := dice{x: 16}
	for range 300 {
		x, m := New(), newModel()
		ons, threads := 1+d.throw(4), 2+d.throw(9)
		var row []call
		for range 150 {
			c := anyCall(&d, ons, threads)
			c.agree(t, x, m, row)
			row = append(row, c)
			same(t, x, m, 12, row[max(0, len(row)-12):])
		}
		inboxes(t, x, m, 12, row)
	}
}

// Each row of four calls of a few, of two threads, one endpoint, one notification.
func TestAllShortRows(t *testing.T) {
	var all []call
	for n := 1; n <= 2; n++ {
		all = append(all,
			call{what: doSend, on: 1, t: n, m: badge(n), block: true},
			call{what: doSend, on: 1, t: n, m: badge(n), call: true, block: true},
			call{what: doRecv, on: 1, t: n, block: true},
			call{what: doWait, on: 1, t: n, block: true},
			call{what: doReply, t: n, m: label(n)},
			call{what: doCancel, t: n})
	}
	all = append(all,
		call{what: doRecv, on: 1, t: 1},
		call{what: doForget, t: 1},
		call{what: doBind, on: 1, t: 1},
		call{what: doUnbind, t: 1},
		call{what: doSignal, on: 1, m: badge(4)},
		call{what: doCancelAll, on: 1},
		call{what: doCancelBadged, on: 1, m: badge(1)})
	const long = 4
	many := 1
	for range long {
		many *= len(all)
	}
	for number := range many {
		x, m := New(), newModel()
		var row []call
		for n := number; len(row) < long; n /= len(all) {
			c := all[n%len(all)]
			c.agree(t, x, m, row)
			row = append(row, c)
		}
		same(t, x, m, 3, row)
		inboxes(t, x, m, 3, row)
	}
}

// inboxes asks that both have delivered the same to the first few.
func inboxes(t *testing.T, x *Ipc, m *model, few int, row []call) {
	t.Helper()
	for n := range few {
		call{what: doInbox, t: n}.agree(t, x, m, row)
	}
}

// R6: the same calls tell the same.
func TestR6SameAgain(t *testing.T) {
	d := dice{x: 6}
	for range 30 {
		one, two := New(), New()
		for range 200 {
			c := anyCall(&d, 3, 9)
			a, l := c.real(one)
			b, k := c.real(two)
			if a != b || !slices.Equal(l, k) {
				t.Fatalf("%+v: %+v, %v and %+v, %v", c, a, l, b, k)
			}
		}
	}
}

// Each message has a label of its own here: it is delivered at most once.
func TestP8AtMostOnce(t *testing.T) {
	d := dice{x: 8}
	for range 40 {
		x := New()
		seen, next := map[int]int{}, 1
		for range 300 {
			c := anyCall(&d, 2, 8)
			c.m.Label = next
			if c.what == doSignal || c.what == doInbox {
				continue
			}
			if a, _ := c.real(x); a.e == api.OK && (c.what == doSend || c.what == doReply) {
				next++
			}
			for who := range 8 {
				if got, ok := x.Inbox(who); ok {
					seen[got.Label]++
				}
			}
		}
		for n, times := range seen {
			if times > 1 || n >= next {
				t.Fatalf("%d was told %d times, of %d", n, times, next)
			}
		}
	}
}

// Each bit that was signalled has been told, or is still lit.
func TestP8NoBitIsLost(t *testing.T) {
	d := dice{x: 20}
	for range 60 {
		x := New()
		sent, heard := 0, 0
		for range 80 {
			c := anyCall(&d, 2, 6)
			if c.what == doSend || c.what == doReply || c.what == doInbox {
				continue
			}
			if c.what == doSignal {
				c.m.Badge = 1 << d.throw(20)
			}
			if a, _ := c.real(x); c.what == doSignal && a.e == api.OK {
				sent |= c.m.Badge
			}
			for who := range 6 {
				got, _ := x.Inbox(who)
				heard |= got.Badge
			}
		}
		for note := range 2 {
			b, _ := x.Lit(note)
			heard |= b
		}
		if heard != sent {
			t.Fatalf("sent %x, heard %x", sent, heard)
		}
	}
}
