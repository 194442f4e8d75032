package ipc

import (
	"math"
	"slices"
	"testing"

	"viceroy/api"
)

// farNumbers are such as no endpoint, notification, thread, label or badge is.
var farNumbers = []int{math.MinInt, math.MinInt + 1, -1 << 62, -1 << 32, -1024, -2, -1, 1 << 20, 1<<20 + 1, 1 << 32, 1<<32 + 1, 1 << 62, math.MaxInt - 1, math.MaxInt}

// noNumbers are such as no endpoint, notification or thread is.
var noNumbers = append([]int{1024, 1025, 1<<20 - 1}, farNumbers...)

func label(n int) api.Message { return api.Message{Label: n} }
func badge(n int) api.Message { return api.Message{Badge: n} }

func sends(t *testing.T, x *Ipc, ep, who int, m api.Message, call, block bool, want int) {
	t.Helper()
	if to, e := x.Send(ep, who, m, call, block); to != want || e != api.OK {
		t.Errorf("Send(%d, %d, %+v, %v, %v) = %d, %v; want %d", ep, who, m, call, block, to, e, want)
	}
}

func sendFails(t *testing.T, x *Ipc, ep, who int, m api.Message, want api.Errno) {
	t.Helper()
	for n := range 4 {
		if to, e := x.Send(ep, who, m, n&1 != 0, n&2 != 0); to != -1 || e != want {
			t.Errorf("Send(%d, %d, %+v) = %d, %v; want -1, %v", ep, who, m, to, e, want)
		}
	}
}

func receives(t *testing.T, x *Ipc, ep, who int, block bool, woken int, got bool) {
	t.Helper()
	if w, g, e := x.Recv(ep, who, block); w != woken || g != got || e != api.OK {
		t.Errorf("Recv(%d, %d, %v) = %d, %v, %v; want %d, %v", ep, who, block, w, g, e, woken, got)
	}
}

func recvFails(t *testing.T, x *Ipc, ep, who int, want api.Errno) {
	t.Helper()
	for _, block := range []bool{false, true} {
		if w, g, e := x.Recv(ep, who, block); w != -1 || g || e != want {
			t.Errorf("Recv(%d, %d, %v) = %d, %v, %v; want -1, false, %v", ep, who, block, w, g, e, want)
		}
	}
}

func replies(t *testing.T, x *Ipc, who int, m api.Message, want int) {
	t.Helper()
	if to, e := x.Reply(who, m); to != want || e != api.OK {
		t.Errorf("Reply(%d, %+v) = %d, %v; want %d", who, m, to, e, want)
	}
}

func replyFails(t *testing.T, x *Ipc, who int, m api.Message, want api.Errno) {
	t.Helper()
	if to, e := x.Reply(who, m); to != -1 || e != want {
		t.Errorf("Reply(%d, %+v) = %d, %v; want -1, %v", who, m, to, e, want)
	}
}

func forgets(t *testing.T, x *Ipc, who, want int) {
	t.Helper()
	if got := x.Forget(who); got != want {
		t.Errorf("Forget(%d) = %d; want %d", who, got, want)
	}
}

func signals(t *testing.T, x *Ipc, note, badge, want int) {
	t.Helper()
	if to, e := x.Signal(note, badge); to != want || e != api.OK {
		t.Errorf("Signal(%d, %d) = %d, %v; want %d", note, badge, to, e, want)
	}
}

func listens(t *testing.T, x *Ipc, note, who int, block, want bool) {
	t.Helper()
	if got, e := x.Wait(note, who, block); got != want || e != api.OK {
		t.Errorf("Wait(%d, %d, %v) = %v, %v; want %v", note, who, block, got, e, want)
	}
}

func waitFails(t *testing.T, x *Ipc, note, who int, want api.Errno) {
	t.Helper()
	for _, block := range []bool{false, true} {
		if got, e := x.Wait(note, who, block); got || e != want {
			t.Errorf("Wait(%d, %d, %v) = %v, %v; want false, %v", note, who, block, got, e, want)
		}
	}
}

func answers(t *testing.T, what string, got, want api.Errno) {
	t.Helper()
	if got != want {
		t.Errorf("%s: %v; want %v", what, got, want)
	}
}

func stateIs(t *testing.T, x *Ipc, who, state, on int) {
	t.Helper()
	if s, o := x.State(who); s != state || o != on {
		t.Errorf("State(%d) = %d, %d; want %d, %d", who, s, o, state, on)
	}
}

func waitsNowhere(t *testing.T, x *Ipc, l ...int) {
	t.Helper()
	for _, who := range l {
		stateIs(t, x, who, api.Inactive, -1)
	}
}

func callerIs(t *testing.T, x *Ipc, who, want int) {
	t.Helper()
	if got := x.Caller(who); got != want {
		t.Errorf("Caller(%d) = %d; want %d", who, got, want)
	}
}

func waiting(t *testing.T, x *Ipc, ep int, want ...int) {
	t.Helper()
	if got := x.Waiting(ep); !slices.Equal(got, want) {
		t.Errorf("Waiting(%d) = %v; want %v", ep, got, want)
	}
}

func litIs(t *testing.T, x *Ipc, note, badge int, lit bool) {
	t.Helper()
	if b, l := x.Lit(note); b != badge || l != lit {
		t.Errorf("Lit(%d) = %d, %v; want %d, %v", note, b, l, badge, lit)
	}
}

func inbox(t *testing.T, x *Ipc, who int, want api.Message) {
	t.Helper()
	if m, ok := x.Inbox(who); m != want || !ok {
		t.Errorf("Inbox(%d) = %+v, %v; want %+v", who, m, ok, want)
	}
}

func noInbox(t *testing.T, x *Ipc, l ...int) {
	t.Helper()
	for _, who := range l {
		if m, ok := x.Inbox(who); m != (api.Message{}) || ok {
			t.Errorf("Inbox(%d) = %+v, %v; want nothing", who, m, ok)
		}
	}
}

func told(t *testing.T, what string, got []int, want ...int) {
	t.Helper()
	if !slices.Equal(got, want) {
		t.Errorf("%s: %v; want %v", what, got, want)
	}
}

func TestExamples(t *testing.T) {
	x := New()
	receives(t, x, 9, 1, true, -1, false)
	sends(t, x, 9, 2, label(5), true, false, 1)
	inbox(t, x, 1, label(5))
	stateIs(t, x, 2, api.BlockedReply, 1)
	callerIs(t, x, 1, 2)

	replies(t, x, 1, label(6), 2)
	inbox(t, x, 2, label(6))
	replyFails(t, x, 1, label(6), api.ErrReply)

	sends(t, x, 9, 2, label(1), false, true, -1)
	sends(t, x, 9, 3, label(2), false, true, -1)
	waiting(t, x, 9, 2, 3)
	sendFails(t, x, 9, 1024, label(1), api.ErrArg)
	sendFails(t, x, 9, 2, label(1), api.ErrThread)
	receives(t, x, 9, 1, false, 2, true)

	signals(t, x, 7, 1, -1)
	signals(t, x, 7, 4, -1)
	listens(t, x, 7, 5, false, true)
	inbox(t, x, 5, badge(5))
}

func TestP1AllIsIdle(t *testing.T) {
	x := New()
	if x == nil {
		t.Fatal("New() is nil")
	}
	for n := range 1024 {
		waitsNowhere(t, x, n)
		callerIs(t, x, n, -1)
		waiting(t, x, n)
		litIs(t, x, n, 0, false)
		noInbox(t, x, n)
		forgets(t, x, n, -1)
		if x.Cancel(n) {
			t.Errorf("%d waited", n)
		}
		told(t, "CancelAll", x.CancelAll(n))
		answers(t, "Unbind", x.Unbind(n), api.ErrEmpty)
	}
}

func TestP1States(t *testing.T) {
	x := New()
	sends(t, x, 10, 1, label(1), false, true, -1)
	sends(t, x, 10, 2, label(1), true, true, -1)
	receives(t, x, 11, 3, true, -1, false)
	receives(t, x, 11, 4, true, -1, false)
	listens(t, x, 12, 5, true, false)
	sends(t, x, 11, 6, label(1), true, true, 3)
	sends(t, x, 11, 7, label(1), true, true, 4)
	forgets(t, x, 4, 7)
	stateIs(t, x, 1, api.BlockedSend, 10)
	stateIs(t, x, 2, api.BlockedSend, 10)
	stateIs(t, x, 3, api.Inactive, -1)
	stateIs(t, x, 5, api.BlockedNote, 12)
	stateIs(t, x, 6, api.BlockedReply, 3)
	stateIs(t, x, 7, api.BlockedReply, -1)
	receives(t, x, 11, 4, true, -1, false)
	stateIs(t, x, 4, api.BlockedRecv, 11)
	callerIs(t, x, 3, 6)
	callerIs(t, x, 4, -1)
	waiting(t, x, 10, 1, 2)
	waiting(t, x, 11, 4)
	waiting(t, x, 12)
}

func TestP1WhatIsNone(t *testing.T) {
	x := New()
	sends(t, x, 3, 1, label(1), true, true, -1)
	receives(t, x, 3, 2, false, -1, true)
	forgets(t, x, 2, 1)
	for _, n := range noNumbers {
		waitsNowhere(t, x, n)
		callerIs(t, x, n, -1)
		waiting(t, x, n)
		litIs(t, x, n, 0, false)
		noInbox(t, x, n)
		forgets(t, x, n, -1)
		if x.Cancel(n) {
			t.Errorf("Cancel(%d)", n)
		}
		told(t, "CancelAll", x.CancelAll(n))
		told(t, "CancelBadged", x.CancelBadged(n, 0))
	}
	stateIs(t, x, 1, api.BlockedReply, -1)
}

// The numbers of endpoints, notifications and threads are apart.
func TestP1NumbersAreApart(t *testing.T) {
	x := New()
	sends(t, x, 5, 5, label(3), false, true, -1)
	listens(t, x, 5, 6, true, false)
	waiting(t, x, 5, 5)
	signals(t, x, 5, 1, 6)
	signals(t, x, 5, 2, -1)
	stateIs(t, x, 5, api.BlockedSend, 5)
	receives(t, x, 5, 6, true, 5, true)
	inbox(t, x, 6, label(3))
	litIs(t, x, 5, 2, true)
}

func TestP1InboxIsTaken(t *testing.T) {
	x := New()
	m := api.Message{Label: 1, Badge: 2, Many: 2, Words: [4]uint32{7, math.MaxUint32}}
	receives(t, x, 1, 1, true, -1, false)
	sends(t, x, 1, 2, m, false, true, 1)
	noInbox(t, x, 2, 3)
	inbox(t, x, 1, m)
	noInbox(t, x, 1)
	receives(t, x, 1, 1, true, -1, false)
	sends(t, x, 1, 2, api.Message{}, false, true, 1)
	inbox(t, x, 1, api.Message{})
}

func TestP1NewOneTakesThePlaceOfAnOldOne(t *testing.T) {
	x := New()
	for n := 1; n <= 2; n++ {
		receives(t, x, 1, 1, true, -1, false)
		sends(t, x, 1, 2, api.Message{Label: n, Many: 3 - n, Words: [4]uint32{1, uint32(2 - n)}}, false, true, 1)
	}
	inbox(t, x, 1, api.Message{Label: 2, Many: 1, Words: [4]uint32{1}})
	noInbox(t, x, 1)
}

// An inbox stays, whatever its thread waits for then.
func TestP1InboxStays(t *testing.T) {
	x := New()
	signals(t, x, 1, 9, -1)
	listens(t, x, 1, 1, true, true)
	sends(t, x, 1, 1, label(1), false, true, -1)
	x.Cancel(1)
	inbox(t, x, 1, badge(9))
}

func TestP2Messages(t *testing.T) {
	x := New()
	good := []api.Message{{}, {Label: 1<<20 - 1}, {Badge: 1<<20 - 1}, {Many: 4}, {Many: 4, Words: [4]uint32{1, 2, 3, 4}}, {Many: 1, Words: [4]uint32{math.MaxUint32}}, {Many: 3, Words: [4]uint32{0, 0, 9}}}
	for _, m := range good {
		sends(t, x, 1, 1, m, false, true, -1)
		receives(t, x, 1, 2, true, 1, true)
		inbox(t, x, 2, m)
		receives(t, x, 1, 2, true, -1, false)
		sends(t, x, 1, 1, m, false, false, 2)
		inbox(t, x, 2, m)
	}
}

func wrongMessages() []api.Message {
	l := []api.Message{{Many: 5}, {Words: [4]uint32{1}}, {Words: [4]uint32{0, 0, 0, 1}}, {Many: 1, Words: [4]uint32{1, 1}}, {Many: 2, Words: [4]uint32{0, 0, 1}}, {Many: 3, Words: [4]uint32{1, 1, 1, 1}}}
	for _, n := range farNumbers {
		l = append(l, api.Message{Label: n}, api.Message{Badge: n}, api.Message{Many: n})
	}
	return l
}

func TestP2Errors(t *testing.T) {
	x := New()
	receives(t, x, 1, 1, true, -1, false)
	sends(t, x, 2, 2, label(1), false, true, -1)
	for _, n := range noNumbers {
		sendFails(t, x, n, 3, label(1), api.ErrArg)
		sendFails(t, x, 1, n, label(1), api.ErrArg)
		sendFails(t, x, n, 2, label(1), api.ErrArg)
	}
	for _, m := range wrongMessages() {
		sendFails(t, x, 1, 3, m, api.ErrArg)
		sendFails(t, x, 1, 2, m, api.ErrArg)
	}
	waiting(t, x, 1, 1)
	waiting(t, x, 2, 2)
	noInbox(t, x, 1, 2, 3)
	waitsNowhere(t, x, 3)
}

// waiters lets the threads 1 to 6 wait, each in another way; those of the endpoint 30 wait as receivers, 31 as senders, 32 is the notification.
func waiters(t *testing.T) *Ipc {
	t.Helper()
	x := New()
	receives(t, x, 30, 7, true, -1, false)
	receives(t, x, 30, 1, true, -1, false)
	sends(t, x, 31, 2, label(2), false, true, -1)
	sends(t, x, 31, 3, label(3), true, true, -1)
	sends(t, x, 30, 4, label(4), true, true, 7)
	listens(t, x, 32, 5, true, false)
	sends(t, x, 33, 6, label(6), true, true, -1)
	receives(t, x, 33, 8, true, -1, true)
	forgets(t, x, 8, 6)
	return x
}

func TestP2P3P6WhoWaits(t *testing.T) {
	x := waiters(t)
	for who := 1; who <= 6; who++ {
		s, on := x.State(who)
		for ep := 30; ep <= 34; ep++ {
			sendFails(t, x, ep, who, label(1), api.ErrThread)
			recvFails(t, x, ep, who, api.ErrThread)
		}
		signals(t, x, 40, 1, -1)
		waitFails(t, x, 40, who, api.ErrThread)
		waitFails(t, x, 32, who, api.ErrThread)
		stateIs(t, x, who, s, on)
	}
	waiting(t, x, 30, 1)
	waiting(t, x, 31, 2, 3)
	callerIs(t, x, 7, 4)
	litIs(t, x, 40, 1, true)
	noInbox(t, x, 1, 2, 3, 4, 5, 6)
}

func TestP2FirstReceiver(t *testing.T) {
	x := New()
	for _, who := range []int{5, 3, 4} {
		receives(t, x, 1, who, true, -1, false)
	}
	receives(t, x, 2, 6, true, -1, false)
	waiting(t, x, 1, 5, 3, 4)
	sends(t, x, 1, 9, label(1), false, true, 5)
	waitsNowhere(t, x, 5, 9)
	waiting(t, x, 1, 3, 4)
	sends(t, x, 1, 9, label(2), false, false, 3)
	sends(t, x, 1, 9, label(3), true, true, 4)
	stateIs(t, x, 9, api.BlockedReply, 4)
	waiting(t, x, 1)
	for n, who := range []int{5, 3, 4} {
		inbox(t, x, who, label(n+1))
	}
	callerIs(t, x, 5, -1)
	callerIs(t, x, 3, -1)
	callerIs(t, x, 4, 9)
	waiting(t, x, 2, 6)
	noInbox(t, x, 6)
}

func TestP2NobodyReceives(t *testing.T) {
	x := New()
	sends(t, x, 1, 1, label(1), false, false, -1)
	sends(t, x, 1, 1, label(1), true, false, -1)
	waitsNowhere(t, x, 1)
	waiting(t, x, 1)
	receives(t, x, 1, 2, false, -1, false)
	noInbox(t, x, 1, 2)
	sends(t, x, 1, 1, label(1), true, true, -1)
	sends(t, x, 1, 2, label(2), false, false, -1)
	sends(t, x, 1, 2, label(2), false, true, -1)
	waiting(t, x, 1, 1, 2)
	noInbox(t, x, 1, 2)
}

func TestP2CallThatDoesNotBlock(t *testing.T) {
	x := New()
	receives(t, x, 1, 2, true, -1, false)
	sends(t, x, 1, 1, label(1), true, false, 2)
	stateIs(t, x, 1, api.BlockedReply, 2)
	callerIs(t, x, 2, 1)
}

// Who has a call to answer may call another one, and answers then.
func TestP2CallWithinACall(t *testing.T) {
	x := New()
	receives(t, x, 1, 1, true, -1, false)
	receives(t, x, 2, 2, true, -1, false)
	sends(t, x, 1, 3, label(1), true, true, 1)
	sends(t, x, 2, 1, label(2), true, true, 2)
	callerIs(t, x, 1, 3)
	callerIs(t, x, 2, 1)
	replies(t, x, 2, label(3), 1)
	stateIs(t, x, 3, api.BlockedReply, 1)
	replies(t, x, 1, label(4), 3)
	inbox(t, x, 1, label(3))
	inbox(t, x, 3, label(4))
}

func TestP3FirstSender(t *testing.T) {
	x := New()
	sends(t, x, 1, 5, label(5), false, true, -1)
	sends(t, x, 1, 3, label(3), true, true, -1)
	sends(t, x, 1, 4, label(4), false, true, -1)
	receives(t, x, 1, 9, true, 5, true)
	inbox(t, x, 9, label(5))
	waitsNowhere(t, x, 5, 9)
	callerIs(t, x, 9, -1)
	receives(t, x, 1, 9, false, -1, true)
	inbox(t, x, 9, label(3))
	stateIs(t, x, 3, api.BlockedReply, 9)
	callerIs(t, x, 9, 3)
	waiting(t, x, 1, 4)
	receives(t, x, 1, 8, true, 4, true)
	inbox(t, x, 8, label(4))
	callerIs(t, x, 8, -1)
	receives(t, x, 1, 8, false, -1, false)
	waitsNowhere(t, x, 8)
	receives(t, x, 1, 8, true, -1, false)
	stateIs(t, x, 8, api.BlockedRecv, 1)
}

func TestP3Forgets(t *testing.T) {
	for _, block := range []bool{false, true} {
		x := New()
		receives(t, x, 1, 1, true, -1, false)
		sends(t, x, 1, 2, label(1), true, true, 1)
		receives(t, x, 1, 1, block, -1, false)
		stateIs(t, x, 2, api.BlockedReply, -1)
		callerIs(t, x, 1, -1)
		replyFails(t, x, 1, label(1), api.ErrReply)
		noInbox(t, x, 2)
	}
}

func TestP3ForgetsWhereItGets(t *testing.T) {
	x := New()
	sends(t, x, 1, 2, label(2), true, true, -1)
	sends(t, x, 1, 3, label(3), true, true, -1)
	receives(t, x, 1, 1, true, -1, true)
	receives(t, x, 1, 1, true, -1, true)
	stateIs(t, x, 2, api.BlockedReply, -1)
	stateIs(t, x, 3, api.BlockedReply, 1)
	callerIs(t, x, 1, 3)
	answers(t, "Bind", x.Bind(1, 1), api.OK)
	signals(t, x, 1, 6, -1)
	receives(t, x, 1, 1, true, -1, true)
	stateIs(t, x, 3, api.BlockedReply, -1)
	callerIs(t, x, 1, -1)
	inbox(t, x, 1, badge(6))
}

func TestP3ErrorsForgetNothing(t *testing.T) {
	x := New()
	receives(t, x, 1, 1, true, -1, false)
	sends(t, x, 1, 2, label(1), true, true, 1)
	for _, n := range noNumbers {
		recvFails(t, x, n, 1, api.ErrArg)
		recvFails(t, x, 1, n, api.ErrArg)
		recvFails(t, x, n, 2, api.ErrArg)
	}
	callerIs(t, x, 1, 2)
	sends(t, x, 5, 1, label(1), false, true, -1)
	recvFails(t, x, 1, 1, api.ErrThread)
	callerIs(t, x, 1, 2)
	stateIs(t, x, 2, api.BlockedReply, 1)
}

func TestP3BoundNotificationGoesFirst(t *testing.T) {
	x := New()
	answers(t, "Bind", x.Bind(7, 1), api.OK)
	sends(t, x, 1, 2, label(2), false, true, -1)
	signals(t, x, 7, 5, -1)
	signals(t, x, 8, 9, -1)
	receives(t, x, 1, 1, true, -1, true)
	inbox(t, x, 1, badge(5))
	litIs(t, x, 7, 0, false)
	litIs(t, x, 8, 9, true)
	waiting(t, x, 1, 2)
	receives(t, x, 1, 1, true, 2, true)
	inbox(t, x, 1, label(2))
}

// A notification that is lit with the badge 0 is lit.
func TestP3BadgeOfNought(t *testing.T) {
	x := New()
	answers(t, "Bind", x.Bind(7, 1), api.OK)
	signals(t, x, 7, 0, -1)
	litIs(t, x, 7, 0, true)
	receives(t, x, 1, 1, true, -1, true)
	inbox(t, x, 1, api.Message{})
	litIs(t, x, 7, 0, false)
	receives(t, x, 1, 1, true, -1, false)
}

func TestP4Reply(t *testing.T) {
	x := New()
	receives(t, x, 1, 1, true, -1, false)
	sends(t, x, 1, 2, label(1), true, true, 1)
	m := api.Message{Label: 7, Badge: 1<<20 - 1, Many: 4, Words: [4]uint32{1, 2, 3, 4}}
	replies(t, x, 1, m, 2)
	m.Badge = 0
	inbox(t, x, 2, m)
	inbox(t, x, 1, label(1))
	waitsNowhere(t, x, 1, 2)
	callerIs(t, x, 1, -1)
	replyFails(t, x, 1, m, api.ErrReply)
	noInbox(t, x, 2)
}

func TestP4ReplyErrors(t *testing.T) {
	x := New()
	receives(t, x, 1, 1, true, -1, false)
	sends(t, x, 1, 2, label(1), true, true, 1)
	for _, n := range noNumbers {
		replyFails(t, x, n, label(1), api.ErrArg)
	}
	for _, m := range wrongMessages() {
		replyFails(t, x, 1, m, api.ErrArg)
		replyFails(t, x, 3, m, api.ErrArg)
	}
	replyFails(t, x, 2, label(1), api.ErrReply)
	replyFails(t, x, 3, label(1), api.ErrReply)
	callerIs(t, x, 1, 2)
	noInbox(t, x, 2)
	sends(t, x, 5, 1, label(9), false, true, -1)
	replies(t, x, 1, label(4), 2)
	stateIs(t, x, 1, api.BlockedSend, 5)
}

func TestP4Forget(t *testing.T) {
	x := New()
	for who := 1; who <= 2; who++ {
		receives(t, x, 1, who, true, -1, false)
		sends(t, x, 1, who+10, label(1), true, true, who)
	}
	forgets(t, x, 1, 11)
	forgets(t, x, 1, -1)
	stateIs(t, x, 11, api.BlockedReply, -1)
	stateIs(t, x, 12, api.BlockedReply, 2)
	callerIs(t, x, 1, -1)
	callerIs(t, x, 2, 12)
	replyFails(t, x, 1, label(1), api.ErrReply)
	forgets(t, x, 2, 12)
	forgets(t, x, 11, -1)
	noInbox(t, x, 11, 12)
	if !x.Cancel(11) {
		t.Error("it waits for nobody's answer, and that is to wait")
	}
	waitsNowhere(t, x, 11)
	stateIs(t, x, 12, api.BlockedReply, -1)
}

func TestP5Lights(t *testing.T) {
	x := New()
	signals(t, x, 1, 1, -1)
	signals(t, x, 1, 1<<20-1-2, -1)
	signals(t, x, 2, 0, -1)
	litIs(t, x, 1, 1<<20-3, true)
	litIs(t, x, 2, 0, true)
	litIs(t, x, 3, 0, false)
	signals(t, x, 1, 2, -1)
	litIs(t, x, 1, 1<<20-1, true)
}

func TestP5Errors(t *testing.T) {
	x := New()
	listens(t, x, 1, 1, true, false)
	fails := func(note, badge int) {
		t.Helper()
		if to, e := x.Signal(note, badge); to != -1 || e != api.ErrArg {
			t.Errorf("Signal(%d, %d) = %d, %v", note, badge, to, e)
		}
	}
	for _, n := range noNumbers {
		fails(n, 1)
	}
	for _, n := range farNumbers {
		fails(1, n)
		fails(2, n)
	}
	stateIs(t, x, 1, api.BlockedNote, 1)
	litIs(t, x, 2, 0, false)
	noInbox(t, x, 1)
}

func TestP5FirstOfThoseWhoWait(t *testing.T) {
	x := New()
	for _, who := range []int{4, 2, 3} {
		listens(t, x, 1, who, true, false)
	}
	listens(t, x, 2, 5, true, false)
	for n, who := range []int{4, 2, 3} {
		signals(t, x, 1, n, who)
		waitsNowhere(t, x, who)
		litIs(t, x, 1, 0, false)
		inbox(t, x, who, badge(n))
	}
	signals(t, x, 1, 8, -1)
	litIs(t, x, 1, 8, true)
	stateIs(t, x, 5, api.BlockedNote, 2)
}

func TestP5BoundReceiver(t *testing.T) {
	x := New()
	answers(t, "Bind", x.Bind(1, 1), api.OK)
	receives(t, x, 5, 2, true, -1, false)
	receives(t, x, 5, 1, true, -1, false)
	receives(t, x, 5, 3, true, -1, false)
	signals(t, x, 2, 4, -1)
	signals(t, x, 1, 6, 1)
	waitsNowhere(t, x, 1)
	inbox(t, x, 1, badge(6))
	litIs(t, x, 1, 0, false)
	waiting(t, x, 5, 2, 3)
}

// Who waits at the notification goes ahead of the one that is bound to it.
func TestP5WaitersAheadOfTheBoundOne(t *testing.T) {
	x := New()
	answers(t, "Bind", x.Bind(1, 1), api.OK)
	receives(t, x, 5, 1, true, -1, false)
	listens(t, x, 1, 2, true, false)
	signals(t, x, 1, 1, 2)
	signals(t, x, 1, 2, 1)
	inbox(t, x, 1, badge(2))
	inbox(t, x, 2, badge(1))
}

// A bound thread that waits otherwise than as a receiver is not told.
func TestP5BoundOneThatDoesNotReceive(t *testing.T) {
	for who := 2; who <= 9; who++ {
		x := waiters(t)
		answers(t, "Bind", x.Bind(1, who), api.OK)
		x.Inbox(who)
		s, on := x.State(who)
		signals(t, x, 1, 1, -1)
		litIs(t, x, 1, 1, true)
		stateIs(t, x, who, s, on)
		noInbox(t, x, who)
	}
}

// One who receives already when it is bound to what is lit waits on; the next signal is told alone.
func TestP5BoundWhileItReceives(t *testing.T) {
	x := New()
	signals(t, x, 1, 1, -1)
	receives(t, x, 5, 1, true, -1, false)
	answers(t, "Bind", x.Bind(1, 1), api.OK)
	stateIs(t, x, 1, api.BlockedRecv, 5)
	noInbox(t, x, 1)
	signals(t, x, 1, 4, 1)
	inbox(t, x, 1, badge(4))
	litIs(t, x, 1, 1, true)
	receives(t, x, 5, 1, true, -1, true)
	inbox(t, x, 1, badge(1))
}

func TestP6Wait(t *testing.T) {
	x := New()
	listens(t, x, 1, 1, false, false)
	waitsNowhere(t, x, 1)
	signals(t, x, 1, 3, -1)
	signals(t, x, 2, 5, -1)
	listens(t, x, 1, 1, true, true)
	waitsNowhere(t, x, 1)
	inbox(t, x, 1, badge(3))
	litIs(t, x, 1, 0, false)
	litIs(t, x, 2, 5, true)
	listens(t, x, 2, 1, false, true)
	inbox(t, x, 1, badge(5))
	listens(t, x, 2, 1, true, false)
	stateIs(t, x, 1, api.BlockedNote, 2)
	noInbox(t, x, 1)
}

// Wait forgets nobody.
func TestP6WaitKeepsTheCaller(t *testing.T) {
	x := New()
	receives(t, x, 1, 1, true, -1, false)
	sends(t, x, 1, 2, label(1), true, true, 1)
	listens(t, x, 1, 1, true, false)
	callerIs(t, x, 1, 2)
	stateIs(t, x, 2, api.BlockedReply, 1)
}

func TestP6WaitErrors(t *testing.T) {
	x := New()
	signals(t, x, 1, 1, -1)
	listens(t, x, 2, 2, true, false)
	for _, n := range noNumbers {
		waitFails(t, x, n, 1, api.ErrArg)
		waitFails(t, x, 1, n, api.ErrArg)
		waitFails(t, x, n, 2, api.ErrArg)
	}
	waitFails(t, x, 1, 2, api.ErrThread)
	litIs(t, x, 1, 1, true)
	noInbox(t, x, 1, 2)
}

func TestP6Bind(t *testing.T) {
	x := New()
	for _, n := range noNumbers {
		answers(t, "Bind", x.Bind(n, 1), api.ErrArg)
		answers(t, "Bind", x.Bind(1, n), api.ErrArg)
		answers(t, "Unbind", x.Unbind(n), api.ErrArg)
	}
	answers(t, "Unbind", x.Unbind(1), api.ErrEmpty)
	answers(t, "Bind", x.Bind(0, 1023), api.OK)
	answers(t, "Bind of both again", x.Bind(0, 1023), api.ErrFull)
	answers(t, "Bind of the note", x.Bind(0, 1), api.ErrFull)
	answers(t, "Bind of the thread", x.Bind(1, 1023), api.ErrFull)
	for _, n := range noNumbers {
		answers(t, "Bind", x.Bind(0, n), api.ErrArg)
		answers(t, "Bind", x.Bind(n, 1023), api.ErrArg)
	}
	answers(t, "Bind of others", x.Bind(1, 1), api.OK)
	answers(t, "Unbind", x.Unbind(1023), api.OK)
	answers(t, "Unbind", x.Unbind(1023), api.ErrEmpty)
	answers(t, "Unbind of who has a note's number", x.Unbind(0), api.ErrEmpty)
	answers(t, "Bind", x.Bind(0, 2), api.OK)
	answers(t, "Bind", x.Bind(3, 1023), api.OK)
}

func TestP6BindWhereThreadsWait(t *testing.T) {
	x := New()
	listens(t, x, 1, 1, true, false)
	answers(t, "Bind", x.Bind(1, 2), api.ErrFull)
	answers(t, "Bind", x.Bind(1, 1), api.ErrFull)
	answers(t, "Bind", x.Bind(2, 1), api.OK)
	signals(t, x, 1, 1, 1)
	answers(t, "Bind", x.Bind(1, 2), api.OK)
}

func TestP6Unbind(t *testing.T) {
	x := New()
	answers(t, "Bind", x.Bind(1, 1), api.OK)
	receives(t, x, 5, 1, true, -1, false)
	answers(t, "Unbind", x.Unbind(1), api.OK)
	stateIs(t, x, 1, api.BlockedRecv, 5)
	signals(t, x, 1, 1, -1)
	litIs(t, x, 1, 1, true)
	x.Cancel(1)
	receives(t, x, 5, 1, true, -1, false)
	noInbox(t, x, 1)
}

func TestP7Cancel(t *testing.T) {
	for who := 1; who <= 6; who++ {
		x := waiters(t)
		if !x.Cancel(who) || x.Cancel(who) {
			t.Errorf("%d waited, and does not any more", who)
		}
		waitsNowhere(t, x, who)
		noInbox(t, x, who)
		if who == 4 {
			callerIs(t, x, 7, -1)
			replyFails(t, x, 7, label(1), api.ErrReply)
			forgets(t, x, 7, -1)
		} else {
			callerIs(t, x, 7, 4)
		}
		for other := 1; other <= 6; other++ {
			if s, _ := x.State(other); other != who && s == api.Inactive {
				t.Errorf("%d was cancelled with %d", other, who)
			}
		}
	}
	x := waiters(t)
	for who := 7; who <= 9; who++ {
		if x.Cancel(who) {
			t.Errorf("%d did not wait", who)
		}
	}
	callerIs(t, x, 7, 4)
}

func TestP7CancelTakesOutOfTheQueue(t *testing.T) {
	x := New()
	for who := 1; who <= 5; who++ {
		sends(t, x, 1, who, label(who), who%2 == 0, true, -1)
		receives(t, x, 2, who+5, true, -1, false)
		listens(t, x, 3, who+10, true, false)
	}
	for _, n := range []int{3, 1, 5} {
		for base := 0; base <= 10; base += 5 {
			if !x.Cancel(base + n) {
				t.Errorf("%d waited", base+n)
			}
		}
	}
	waiting(t, x, 1, 2, 4)
	waiting(t, x, 2, 7, 9)
	signals(t, x, 3, 1, 12)
	signals(t, x, 3, 1, 14)
	signals(t, x, 3, 1, -1)
	sends(t, x, 1, 3, label(30), false, true, -1)
	waiting(t, x, 1, 2, 4, 3)
}

// A thread that was cancelled while it waited as a sender is not heard of; what it sends then is something else.
func TestP7CancelledSender(t *testing.T) {
	x := New()
	sends(t, x, 1, 1, label(1), true, true, -1)
	x.Cancel(1)
	receives(t, x, 1, 2, false, -1, false)
	noInbox(t, x, 2)
	sends(t, x, 1, 1, label(2), false, true, -1)
	receives(t, x, 1, 2, false, 1, true)
	inbox(t, x, 2, label(2))
	waitsNowhere(t, x, 1)
}

func TestP7CancelAll(t *testing.T) {
	x := waiters(t)
	receives(t, x, 30, 20, true, -1, false)
	told(t, "receivers", x.CancelAll(30), 1, 20)
	told(t, "senders", x.CancelAll(31), 2, 3)
	told(t, "nobody", x.CancelAll(31))
	told(t, "a note is no endpoint", x.CancelAll(32))
	waitsNowhere(t, x, 1, 2, 3, 20)
	stateIs(t, x, 4, api.BlockedReply, 7)
	stateIs(t, x, 5, api.BlockedNote, 32)
	waiting(t, x, 30)
	waiting(t, x, 31)
	noInbox(t, x, 1, 2, 3, 20)
}

func TestP7CancelBadged(t *testing.T) {
	x := New()
	for who, b := range []int{7, 8, 7, 0, 7} {
		sends(t, x, 1, who, api.Message{Label: who, Badge: b}, who == 2, true, -1)
	}
	sends(t, x, 2, 9, badge(7), false, true, -1)
	told(t, "9", x.CancelBadged(1, 9))
	for _, n := range farNumbers {
		told(t, "no badge", x.CancelBadged(1, n))
	}
	told(t, "7", x.CancelBadged(1, 7), 0, 2, 4)
	waitsNowhere(t, x, 0, 2, 4)
	waiting(t, x, 1, 1, 3)
	told(t, "0", x.CancelBadged(1, 0), 3)
	waiting(t, x, 1, 1)
	waiting(t, x, 2, 9)
	told(t, "7 again", x.CancelBadged(1, 7))
}

// Receivers have no badge, though what they sent once had one; nor have callers that wait at it no more.
func TestP7CancelBadgedOfOthers(t *testing.T) {
	x := New()
	for who := 1; who <= 2; who++ {
		sends(t, x, 1, who, badge(7), who == 2, true, -1)
	}
	receives(t, x, 1, 3, false, 1, true)
	receives(t, x, 1, 3, false, -1, true)
	receives(t, x, 1, 1, true, -1, false)
	told(t, "7", x.CancelBadged(1, 7))
	told(t, "0", x.CancelBadged(1, 0))
	waiting(t, x, 1, 1)
	stateIs(t, x, 2, api.BlockedReply, 3)
}

// All of the threads at once, at one endpoint and at one notification.
func TestP8AllThreads(t *testing.T) {
	x := New()
	for who := range 1023 {
		sends(t, x, 1023, who, label(who), who%3 == 0, true, -1)
	}
	for who := range 1023 {
		want := who
		if who%3 == 0 {
			want = -1
		}
		receives(t, x, 1023, 1023, true, want, true)
		inbox(t, x, 1023, label(who))
		if who%3 == 0 {
			callerIs(t, x, 1023, who)
			replies(t, x, 1023, label(1), who)
		}
	}
	for who := range 1024 {
		listens(t, x, 1023, who, true, false)
	}
	for who := range 1024 {
		signals(t, x, 1023, who, who)
	}
	signals(t, x, 1023, 1, -1)
}

func TestR1AnyArguments(t *testing.T) {
	x := waiters(t)
	all := append(slices.Clone(noNumbers), 0, 1, 30, 1023)
	for _, a := range all {
		for _, b := range all {
			for n := range 4 {
				x.Send(a, b, api.Message{Label: a, Badge: b, Many: a}, n&1 != 0, n&2 != 0)
				x.Recv(a, b, n&1 != 0)
				x.Wait(a, b, n&1 != 0)
			}
			x.Signal(a, b)
			x.Bind(a, b)
			x.CancelBadged(a, b)
			x.Reply(a, api.Message{Label: b, Many: b})
		}
		x.Forget(a)
		x.Unbind(a)
		x.State(a)
		x.Caller(a)
		x.Waiting(a)
		x.Lit(a)
		x.Inbox(a)
		x.CancelAll(a)
		x.Cancel(a)
	}
}

func TestR5NothingIsShared(t *testing.T) {
	x := New()
	for who := 1; who <= 4; who++ {
		sends(t, x, 1, who, badge(who%2), false, true, -1)
	}
	l := x.Waiting(1)
	for i := range l {
		l[i] = 99
	}
	_ = append(l[:1], 98, 97)
	waiting(t, x, 1, 1, 2, 3, 4)
	l = x.CancelBadged(1, 1)
	l[0] = 99
	_ = append(l, 98)
	waiting(t, x, 1, 2, 4)
	l = x.CancelAll(1)
	l[0] = 99
	waiting(t, x, 1)
	waitsNowhere(t, x, 1, 2, 3, 4)
}

// Two of them know nothing of each other.
func TestR6ApartFromOthers(t *testing.T) {
	x, y := waiters(t), New()
	sends(t, y, 30, 1, label(1), false, false, -1)
	signals(t, y, 32, 1, -1)
	waitsNowhere(t, y, 1, 2, 3, 4, 5, 6)
	litIs(t, x, 32, 0, false)
	waiting(t, x, 30, 1)
}
