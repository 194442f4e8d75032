package vgic

import (
	"math"
	"slices"
	"testing"

	"viceroy/api"
)

// farNumbers are no id, no priority, no mask and no count of list registers; some would be one if they were cut to fewer bits.
var farNumbers = []int{-1, -2, -15, -16, -17, -63, -64, -65, -255, -256, -257, 257, 258, 511, 512, 1023, 1024, 1 << 16, 1<<16 + 3, 1<<31 - 1, 1 << 31, 1 << 32, 1<<32 + 3, -1 << 32, -1<<32 + 3, 1 << 62, math.MaxInt - 1, math.MaxInt, math.MinInt, math.MinInt + 1, math.MinInt + 3}

func wrongIds() []int { return append([]int{64, 65, 127, 128, 255, 256}, farNumbers...) }

func wrongPriorities() []int { return append([]int{256}, farNumbers...) }

func wrongMasks() []int { return farNumbers }

func fresh(t *testing.T, lrs int) *Vgic {
	t.Helper()
	v, e := New(lrs)
	if v == nil || e != api.OK {
		t.Fatalf("New(%d) = %v, %v", lrs, v, e)
	}
	return v
}

func good(t *testing.T, errs ...api.Errno) {
	t.Helper()
	for n, e := range errs {
		if e != api.OK {
			t.Fatalf("call %d of %d: %v", n+1, len(errs), e)
		}
	}
}

// refused wants ErrArg of all of them.
func refused(t *testing.T, errs ...api.Errno) {
	t.Helper()
	for n, e := range errs {
		if e != api.ErrArg {
			t.Errorf("call %d of %d: %v, want ErrArg", n+1, len(errs), e)
		}
	}
}

func next(t *testing.T, v *Vgic, want int, after ...any) {
	t.Helper()
	if id, ok := v.Next(); id != want || !ok {
		t.Errorf("Next = %d, %v, want %d, true, after %v", id, ok, want, after)
	}
}

// none wants that nothing may be heard, and that an acknowledgement says so.
func none(t *testing.T, v *Vgic, after ...any) {
	t.Helper()
	if id, ok := v.Next(); id != 0 || ok {
		t.Errorf("Next = %d, %v, want 0, false, after %v", id, ok, after)
	}
	if id := v.Ack(); id != 1023 {
		t.Errorf("Ack = %d, want 1023, after %v", id, after)
	}
}

func ack(t *testing.T, v *Vgic, want int, after ...any) {
	t.Helper()
	if id := v.Ack(); id != want {
		t.Fatalf("Ack = %d, want %d, after %v", id, want, after)
	}
}

func end(t *testing.T, v *Vgic, id int, want bool, after ...any) {
	t.Helper()
	if flag, e := v.End(id); flag != want || e != api.OK {
		t.Fatalf("End(%d) = %v, %v, want %v, OK, after %v", id, flag, e, want, after)
	}
}

func notActive(t *testing.T, v *Vgic, id int, after ...any) {
	t.Helper()
	if flag, e := v.End(id); flag || e != api.ErrActive {
		t.Errorf("End(%d) = %v, %v, want false, ErrActive, after %v", id, flag, e, after)
	}
}

func all(t *testing.T, v *Vgic, want ...api.Lr) {
	t.Helper()
	if got := v.All(); !slices.Equal(got, want) {
		t.Errorf("All = %+v, want %+v", got, want)
	}
}

func counts(t *testing.T, v *Vgic, injected, acked, ended int) {
	t.Helper()
	if a, b, c := v.Counts(); a != injected || b != acked || c != ended {
		t.Errorf("Counts = %d, %d, %d, want %d, %d, %d", a, b, c, injected, acked, ended)
	}
}

// served has one injected and acknowledged.
func served(t *testing.T, v *Vgic, id, priority int, level bool) {
	t.Helper()
	good(t, v.Inject(id, priority, level))
	ack(t, v, id, "injected with", priority)
}

// told is all that a controller tells without a change.
type told struct {
	all        [64]api.Lr
	lrs        [64]api.Lr
	many, held int
	id         int
	ok         bool
	counts     [3]int
}

func tell(v *Vgic) told {
	var x told
	x.many = copy(x.all[:], v.All())
	x.held = copy(x.lrs[:], v.Lrs())
	x.id, x.ok = v.Next()
	x.counts[0], x.counts[1], x.counts[2] = v.Counts()
	return x
}

// hidden is what no call tells at once: the mask, which ones are enabled, and with what those are pending that are active too.
type hidden struct {
	mask    int
	enabled [64]bool
	pending [64]api.Lr
	flags   [64]bool
}

func endAll(v *Vgic) (flags [64]bool) {
	for id := range 64 {
		flags[id], _ = v.End(id)
	}
	return flags
}

// maskOf finds the mask: the least priority with which 63 is not heard. It spoils the rest; 63 must not be pending.
func maskOf(t *testing.T, v *Vgic) int {
	t.Helper()
	endAll(v)
	for id := range 64 {
		good(t, v.Enable(id, id == 63))
	}
	for p := range 256 {
		good(t, v.Inject(63, p, false))
		if v.Ack() != 63 {
			return p
		}
		end(t, v, 63, false)
	}
	return 256
}

// enabledOf finds which are enabled: those that are heard, if they alone are pending. It spoils the rest.
func enabledOf(t *testing.T, v *Vgic) (on [64]bool) {
	t.Helper()
	endAll(v)
	good(t, v.SetMask(256))
	// One turn for each that may be pending: a loop till there is none would not end, if none ever went.
	for range 64 {
		v.End(v.Ack())
	}
	for id := range 64 {
		v.Inject(id, 9, false)
		if n := v.Ack(); n == id {
			on[id] = true
			v.End(id)
		} else if n != 1023 {
			t.Fatalf("Ack = %d, want %d or 1023", n, id)
		}
	}
	return on
}

// uncover makes the same controller thrice, as each look spoils it.
func uncover(t *testing.T, build func() *Vgic) hidden {
	t.Helper()
	h := hidden{mask: maskOf(t, build()), enabled: enabledOf(t, build())}
	v := build()
	h.flags = endAll(v)
	copy(h.pending[:], v.All())
	return h
}

// unchanged wants that an act leaves everything as it was, what is told and what is hidden.
func unchanged(t *testing.T, build func() *Vgic, act func(*Vgic), what ...any) {
	t.Helper()
	v := build()
	was := tell(v)
	act(v)
	if got := tell(v); got != was {
		t.Errorf("%v changed something: %+v, want %+v", what, got, was)
	}
	acted := func() *Vgic {
		v := build()
		act(v)
		return v
	}
	if got, want := uncover(t, acted), uncover(t, build); got != want {
		t.Errorf("%v changed something hidden: %+v, want %+v", what, got, want)
	}
}

// busy has ones of each kind: served one inside the other, active and pending again, pending and not enabled,
// not enabled and not pending, one that is heard, one that is masked; and one that has ended.
func busy(t *testing.T) *Vgic {
	t.Helper()
	v := fresh(t, 3)
	served(t, v, 9, 200, true)
	end(t, v, 9, true)
	served(t, v, 7, 100, true)
	served(t, v, 0, 50, false)
	good(t, v.Inject(7, 3, false))
	good(t, v.Inject(1, 5, true), v.Enable(1, false), v.Enable(2, false))
	good(t, v.Inject(3, 20, true), v.Inject(62, 45, false))
	good(t, v.SetMask(40))
	return v
}

var busyAll = []api.Lr{
	{Id: 0, Priority: 50, Active: true},
	{Id: 7, Priority: 100, Level: true, Pending: true, Active: true},
	{Id: 1, Priority: 5, Level: true, Pending: true},
	{Id: 3, Priority: 20, Level: true, Pending: true},
	{Id: 62, Priority: 45, Pending: true},
}

// TestBusy holds the others' ground against the promises.
func TestBusy(t *testing.T) {
	v := busy(t)
	all(t, v, busyAll...)
	next(t, v, 3)
	counts(t, v, 7, 3, 1)
	h := uncover(t, func() *Vgic { return busy(t) })
	if h.mask != 40 {
		t.Errorf("the mask is %d, want 40", h.mask)
	}
	for id, on := range h.enabled {
		if on != (id != 1 && id != 2) {
			t.Errorf("%d is enabled: %v", id, on)
		}
	}
	if h.pending[0] != (api.Lr{Id: 7, Priority: 3, Pending: true}) {
		t.Errorf("the first one that is pending behind all ends: %+v", h.pending[0])
	}
}

func TestV1NewWrong(t *testing.T) {
	for _, n := range append([]int{0, 17, 18, 31, 32, 64, 255, 256}, farNumbers...) {
		if v, e := New(n); v != nil || e != api.ErrArg {
			t.Errorf("New(%d) = %v, %v, want nil, ErrArg", n, v, e)
		}
	}
}

func TestV1New(t *testing.T) {
	for n := 1; n <= 16; n++ {
		v := fresh(t, n)
		none(t, v)
		all(t, v)
		if l := v.Lrs(); len(l) != 0 {
			t.Errorf("Lrs = %+v, want none", l)
		}
		counts(t, v, 0, 0, 0)
		for id := range 64 {
			notActive(t, v, id)
		}
		counts(t, v, 0, 0, 0)
	}
}

func TestV1NewHidden(t *testing.T) {
	for n := 1; n <= 16; n++ {
		h := uncover(t, func() *Vgic { return fresh(t, n) })
		want := hidden{mask: 256}
		for id := range want.enabled {
			want.enabled[id] = true
		}
		if h != want {
			t.Errorf("New(%d): %+v, want %+v", n, h, want)
		}
	}
}

func TestV1ListRegisters(t *testing.T) {
	for n := 1; n <= 16; n++ {
		v := fresh(t, n)
		for id := range 64 {
			good(t, v.Inject(id, id, false))
		}
		if got := len(v.Lrs()); got != n {
			t.Errorf("New(%d): %d list registers", n, got)
		}
	}
}

func TestV2Inject(t *testing.T) {
	for id := range 64 {
		for p := range 256 {
			for _, level := range []bool{false, true} {
				v := fresh(t, 1)
				good(t, v.Inject(id, p, level))
				all(t, v, api.Lr{Id: id, Priority: p, Level: level, Pending: true})
				next(t, v, id)
				counts(t, v, 1, 0, 0)
			}
		}
	}
}

func TestV2InjectTellsPending(t *testing.T) {
	for _, id := range []int{0, 1, 31, 32, 62, 63} {
		for _, p := range []int{0, 1, 99, 100, 101, 255} {
			for _, level := range []bool{false, true} {
				v := fresh(t, 2)
				good(t, v.Inject(id, 100, true))
				if e := v.Inject(id, p, level); e != api.ErrPending {
					t.Errorf("Inject(%d, %d, %v) again = %v, want ErrPending", id, p, level, e)
				}
				all(t, v, api.Lr{Id: id, Priority: 100, Level: true, Pending: true})
				counts(t, v, 1, 0, 0)
				ack(t, v, id)
				end(t, v, id, true)
				none(t, v, "it was injected once")
			}
		}
	}
}

func TestV2InjectRefusedChangesNothing(t *testing.T) {
	build := func() *Vgic { return busy(t) }
	for _, id := range []int{7, 1, 3, 62} {
		for _, level := range []bool{false, true} {
			unchanged(t, build, func(v *Vgic) {
				if e := v.Inject(id, 0, level); e != api.ErrPending {
					t.Errorf("Inject(%d) again = %v, want ErrPending", id, e)
				}
			}, "Inject of the pending", id)
		}
	}
}

func TestV2ActiveIsInjectedAgain(t *testing.T) {
	for id := range 64 {
		for _, first := range []bool{false, true} {
			for _, p := range []int{0, 49, 50, 51, 255} {
				v := fresh(t, 1)
				served(t, v, id, 50, first)
				good(t, v.Inject(id, p, !first))
				all(t, v, api.Lr{Id: id, Priority: 50, Level: first, Pending: true, Active: true})
				if e := v.Inject(id, 7, first); e != api.ErrPending {
					t.Errorf("Inject(%d) of both = %v, want ErrPending", id, e)
				}
				all(t, v, api.Lr{Id: id, Priority: 50, Level: first, Pending: true, Active: true})
				counts(t, v, 2, 1, 0)
				none(t, v, "it is active")
				end(t, v, id, first, "the first one's flag")
				all(t, v, api.Lr{Id: id, Priority: p, Level: !first, Pending: true})
				ack(t, v, id)
				all(t, v, api.Lr{Id: id, Priority: p, Level: !first, Active: true})
				end(t, v, id, !first, "the second one's flag")
				all(t, v)
				counts(t, v, 2, 2, 2)
			}
		}
	}
}

func TestV2NotEnabledIsInjected(t *testing.T) {
	for id := range 64 {
		v := fresh(t, 1)
		good(t, v.Enable(id, false), v.Inject(id, 5, true))
		all(t, v, api.Lr{Id: id, Priority: 5, Level: true, Pending: true})
		if e := v.Inject(id, 4, false); e != api.ErrPending {
			t.Errorf("Inject(%d) again = %v, want ErrPending", id, e)
		}
		none(t, v, "not enabled")
		good(t, v.Enable(id, true))
		ack(t, v, id)
	}
}

func TestV2Enable(t *testing.T) {
	for id := range 64 {
		v := fresh(t, 1)
		good(t, v.Inject(id, 255, false))
		for _, on := range []bool{true, false, false, true, true, false, true} {
			good(t, v.Enable(id, on))
			if n, ok := v.Next(); ok != on || on && n != id {
				t.Errorf("Next = %d, %v, after Enable(%d, %v)", n, ok, id, on)
			}
			all(t, v, api.Lr{Id: id, Priority: 255, Pending: true})
		}
	}
}

// TestV2EnableOfAnActiveOne leaves it active: it counts for the running priority till it ends.
func TestV2EnableOfAnActiveOne(t *testing.T) {
	v := fresh(t, 1)
	served(t, v, 5, 30, true)
	good(t, v.Enable(5, false))
	all(t, v, api.Lr{Id: 5, Priority: 30, Level: true, Active: true})
	good(t, v.Inject(6, 30, false))
	none(t, v, "30 is not below 30")
	end(t, v, 5, true)
	ack(t, v, 6)
	good(t, v.Inject(5, 1, false))
	none(t, v, "5 is not enabled")
}

func TestV2OneAlone(t *testing.T) {
	for id := range 64 {
		build := func() *Vgic { return busy(t) }
		want := uncover(t, build)
		want.enabled[id] = !want.enabled[id]
		turned := func() *Vgic {
			v := busy(t)
			was := tell(v)
			good(t, v.Enable(id, want.enabled[id]))
			now := tell(v)
			if now.all != was.all || now.lrs != was.lrs || now.counts != was.counts {
				t.Errorf("Enable(%d) changed what is pending or active, or the counts", id)
			}
			return v
		}
		if got := uncover(t, turned); got.mask != want.mask || got.enabled != want.enabled || got.pending != want.pending {
			t.Errorf("Enable(%d, %v): %+v, want %+v", id, want.enabled[id], got, want)
		}
	}
}

func TestV2SetMask(t *testing.T) {
	for m := 0; m <= 256; m++ {
		v := fresh(t, 1)
		good(t, v.SetMask(m))
		all(t, v)
		counts(t, v, 0, 0, 0)
		if got := maskOf(t, v); got != m {
			t.Errorf("SetMask(%d): the mask is %d", m, got)
		}
	}
}

// TestV2MaskSetAnew goes through rows of masks: the last one holds.
func TestV2MaskSetAnew(t *testing.T) {
	v := fresh(t, 1)
	good(t, v.Inject(8, 100, false))
	for _, m := range []int{0, 256, 100, 101, 99, 256, 1, 255, 100, 0, 101} {
		good(t, v.SetMask(m))
		if _, ok := v.Next(); ok != (100 < m) {
			t.Errorf("Next tells one: %v, the mask is %d", ok, m)
		}
	}
}

func TestV2WrongIds(t *testing.T) {
	build := func() *Vgic { return busy(t) }
	for _, id := range wrongIds() {
		unchanged(t, build, func(v *Vgic) {
			refused(t, v.Inject(id, 0, false), v.Inject(id, 255, true), v.Inject(id, -1, true), v.Inject(id, 256, false), v.Inject(id, id, false))
			refused(t, v.Enable(id, true), v.Enable(id, false))
			if flag, e := v.End(id); flag || e != api.ErrArg {
				t.Errorf("End(%d) = %v, %v, want false, ErrArg", id, flag, e)
			}
		}, "the id", id)
	}
}

// TestV2WrongPriorities has pending ids among them: ErrArg is named first.
func TestV2WrongPriorities(t *testing.T) {
	build := func() *Vgic { return busy(t) }
	for _, p := range wrongPriorities() {
		unchanged(t, build, func(v *Vgic) {
			for id := range 64 {
				refused(t, v.Inject(id, p, false), v.Inject(id, p, true))
			}
		}, "the priority", p)
	}
}

func TestV2WrongMasks(t *testing.T) {
	build := func() *Vgic { return busy(t) }
	for _, m := range wrongMasks() {
		unchanged(t, build, func(v *Vgic) { refused(t, v.SetMask(m)) }, "the mask", m)
	}
}

func TestV2Edges(t *testing.T) {
	for _, c := range []struct {
		id, priority int
		e            api.Errno
	}{{-1, 0, 1}, {0, 0, 0}, {63, 0, 0}, {64, 0, 1}, {5, -1, 1}, {5, 0, 0}, {5, 255, 0}, {5, 256, 1}, {-1, -1, 1}, {64, 256, 1}} {
		v := fresh(t, 1)
		if e := v.Inject(c.id, c.priority, true); e != c.e {
			t.Errorf("Inject(%d, %d) = %v, want %v", c.id, c.priority, e, c.e)
		}
		if n := len(v.All()); n == 0 != (c.e != 0) {
			t.Errorf("Inject(%d, %d): %d are pending", c.id, c.priority, n)
		}
	}
	for _, c := range []struct {
		mask int
		e    api.Errno
	}{{-1, 1}, {0, 0}, {256, 0}, {257, 1}} {
		if e := fresh(t, 1).SetMask(c.mask); e != c.e {
			t.Errorf("SetMask(%d) = %v, want %v", c.mask, e, c.e)
		}
	}
	for _, c := range []struct {
		id int
		e  api.Errno
	}{{-1, 1}, {0, 0}, {63, 0}, {64, 1}} {
		if e := fresh(t, 1).Enable(c.id, false); e != c.e {
			t.Errorf("Enable(%d) = %v, want %v", c.id, e, c.e)
		}
	}
}

// TestV3EachNeed takes one of the needs of being heard away, and gives it back.
func TestV3EachNeed(t *testing.T) {
	for id := range 64 {
		v := fresh(t, 1)
		none(t, v, "not pending")
		good(t, v.Inject(id, 9, false))
		next(t, v, id, "pending")
		good(t, v.Enable(id, false))
		none(t, v, "not enabled")
		good(t, v.Enable(id, true), v.SetMask(9))
		none(t, v, "masked")
		good(t, v.SetMask(10))
		ack(t, v, id)
		none(t, v, "not pending any more")
		good(t, v.Inject(id, 0, false))
		none(t, v, "active, and more urgent than itself")
		end(t, v, id, false)
		next(t, v, id, "not active any more")
	}
}

func TestV3BelowTheMask(t *testing.T) {
	for m := 0; m <= 256; m++ {
		for _, p := range []int{0, m - 1, m, m + 1, 255} {
			if p < 0 || p > 255 {
				continue
			}
			v := fresh(t, 1)
			good(t, v.SetMask(m), v.Inject(4, p, false))
			if p < m {
				next(t, v, 4, "mask", m, "priority", p)
				ack(t, v, 4)
			} else {
				none(t, v, "mask", m, "priority", p)
			}
		}
	}
}

func TestV3BelowTheRunning(t *testing.T) {
	for r := range 256 {
		for _, p := range []int{0, r - 1, r, r + 1, 255} {
			if p < 0 || p > 255 {
				continue
			}
			for _, id := range []int{0, 63} {
				v := fresh(t, 1)
				served(t, v, 20, r, false)
				good(t, v.Inject(id, p, false))
				if p < r {
					next(t, v, id, "running", r, "priority", p)
					ack(t, v, id)
				} else {
					none(t, v, "running", r, "priority", p)
				}
			}
		}
	}
}

// TestV3MaskAndRunning has now the one and now the other as the lesser bound.
func TestV3MaskAndRunning(t *testing.T) {
	for _, c := range []struct {
		mask, priority int
		heard          bool
	}{{256, 99, true}, {256, 100, false}, {100, 99, true}, {61, 60, true}, {60, 60, false}, {60, 59, true}, {99, 99, false}, {101, 100, false}, {101, 99, true}, {1, 0, true}, {0, 0, false}} {
		v := fresh(t, 1)
		served(t, v, 8, 100, false)
		good(t, v.SetMask(c.mask), v.Inject(9, c.priority, false))
		if c.heard {
			next(t, v, 9, c)
		} else {
			none(t, v, c)
		}
	}
}

// TestV3RunningIsThatOfTheActive injects the served one anew: the running priority stays what it was acknowledged with.
func TestV3RunningIsThatOfTheActive(t *testing.T) {
	for _, p := range []int{0, 50, 99, 100, 101, 255} {
		v := fresh(t, 1)
		served(t, v, 6, 100, false)
		good(t, v.Inject(6, p, true), v.Inject(40, 99, false))
		next(t, v, 40, "injected anew with", p)
		ack(t, v, 40)
		end(t, v, 40, false)
		good(t, v.Inject(40, 100, false))
		none(t, v, "injected anew with", p)
		end(t, v, 6, false)
		if p > 100 {
			next(t, v, 40)
		} else {
			next(t, v, 6)
		}
	}
}

func TestV3LeastPriorityFirst(t *testing.T) {
	for a := range 64 {
		for b := range 64 {
			if a == b {
				continue
			}
			v := fresh(t, 1)
			good(t, v.Inject(a, 11, false), v.Inject(b, 10, false))
			next(t, v, b, a, b)
			v = fresh(t, 1)
			good(t, v.Inject(a, 10, false), v.Inject(b, 10, true))
			next(t, v, min(a, b), "equal ones", a, b)
		}
	}
}

// TestV3ThoseNotHeardDoNotHide has more urgent ones that may not be heard ahead of and behind the one that may.
func TestV3ThoseNotHeardDoNotHide(t *testing.T) {
	for _, other := range []int{0, 14, 16, 63} {
		v := fresh(t, 1)
		good(t, v.Inject(15, 200, false), v.Enable(other, false), v.Inject(other, 1, false))
		next(t, v, 15, other, "is not enabled")
		v = fresh(t, 1)
		served(t, v, other, 201, false)
		good(t, v.Inject(other, 1, false), v.Inject(15, 200, false))
		next(t, v, 15, other, "is active")
	}
}

func TestV3AllInTheirOrder(t *testing.T) {
	v := fresh(t, 2)
	want := make([]int, 64)
	for n := range want {
		want[n] = n
		good(t, v.Inject(n, 3*(n*7%8), n%2 == 0))
	}
	slices.SortStableFunc(want, func(a, b int) int { return a*7%8 - b*7%8 })
	var got []int
	for range 80 {
		n := v.Ack()
		if n == 1023 {
			break
		}
		got = append(got, n)
		end(t, v, n, n%2 == 0)
	}
	if !slices.Equal(got, want) {
		t.Errorf("acknowledged: %v, want %v", got, want)
	}
	counts(t, v, 64, 64, 64)
}

func TestV3Ack(t *testing.T) {
	for id := range 64 {
		for _, p := range []int{0, 1, 127, 254, 255} {
			for _, level := range []bool{false, true} {
				v := fresh(t, 1)
				served(t, v, id, p, level)
				all(t, v, api.Lr{Id: id, Priority: p, Level: level, Active: true})
				counts(t, v, 1, 1, 0)
			}
		}
	}
}

func TestV3AckChangesOne(t *testing.T) {
	v := busy(t)
	ack(t, v, 3)
	want := slices.Clone(busyAll)
	want[3].Pending, want[3].Active = false, true
	all(t, v, want[3], want[0], want[1], want[2], want[4])
	counts(t, v, 7, 4, 1)
	none(t, v, "5 is not enabled, 45 not below 40")
	acked := func() *Vgic {
		v := busy(t)
		v.Ack()
		return v
	}
	was, now := uncover(t, func() *Vgic { return busy(t) }), uncover(t, acked)
	if now.mask != was.mask || now.enabled != was.enabled {
		t.Errorf("Ack changed what may be heard: %+v, want %+v", now, was)
	}
}

func TestV3AckOfNoneChangesNothing(t *testing.T) {
	for _, build := range []func() *Vgic{
		func() *Vgic { return fresh(t, 1) },
		func() *Vgic {
			v := busy(t)
			v.Ack()
			return v
		},
		func() *Vgic {
			v := busy(t)
			good(t, v.SetMask(0))
			return v
		},
	} {
		unchanged(t, build, func(v *Vgic) {
			for range 3 {
				ack(t, v, 1023)
			}
		}, "Ack of none")
	}
}

// TestV3Nested serves as many as can be, one inside the other.
func TestV3Nested(t *testing.T) {
	v := fresh(t, 4)
	for n := range 64 {
		good(t, v.Inject(n, 252-4*n, false))
		ack(t, v, n)
		if e := v.Inject(n, 0, false); e != api.OK {
			t.Fatal(e)
		}
		none(t, v, "all that are pending are active")
	}
	counts(t, v, 128, 64, 0)
}

func TestV4End(t *testing.T) {
	v := busy(t)
	end(t, v, 0, false)
	all(t, v, busyAll[1:]...)
	counts(t, v, 7, 3, 2)
	notActive(t, v, 0, "it has ended")
	all(t, v, busyAll[1:]...)
	counts(t, v, 7, 3, 2)
}

// TestV4EndLeavesThePending has one that is both: its end leaves it pending, as it was injected.
func TestV4EndLeavesThePending(t *testing.T) {
	v := busy(t)
	end(t, v, 7, true)
	all(t, v, busyAll[0], api.Lr{Id: 7, Priority: 3, Pending: true}, busyAll[2], busyAll[3], busyAll[4])
	next(t, v, 7)
	notActive(t, v, 7)
	ack(t, v, 7)
	end(t, v, 7, false)
}

func TestV4EndOfNoActiveOne(t *testing.T) {
	build := func() *Vgic { return busy(t) }
	for id := range 64 {
		if id == 0 || id == 7 {
			continue
		}
		unchanged(t, build, func(v *Vgic) {
			for range 2 {
				notActive(t, v, id)
			}
		}, "End of", id)
	}
}

func TestV4EndEdges(t *testing.T) {
	for _, c := range []struct {
		id int
		e  api.Errno
	}{{-1, 1}, {0, 70}, {63, 70}, {64, 1}, {math.MaxInt, 1}, {math.MinInt, 1}} {
		if flag, e := fresh(t, 1).End(c.id); flag || e != c.e {
			t.Errorf("End(%d) = %v, %v, want false, %v", c.id, flag, e, c.e)
		}
	}
	for _, id := range []int{0, 63} {
		v := fresh(t, 1)
		served(t, v, id, 255, true)
		end(t, v, id, true)
	}
}

// TestV4Flags has the flag of the acknowledgement told, whatever the one behind it has.
func TestV4Flags(t *testing.T) {
	for _, row := range [][]bool{{false, false, false}, {true, true, true}, {false, true, false}, {true, false, true}, {true, true, false}, {false, false, true}} {
		v := fresh(t, 1)
		good(t, v.Inject(11, 5, row[0]))
		for n := range row {
			ack(t, v, 11)
			if n+1 < len(row) {
				good(t, v.Inject(11, 5, row[n+1]))
			}
			end(t, v, 11, row[n], row, n)
			notActive(t, v, 11, row, n)
		}
		all(t, v)
	}
}

// orders are all in which the ids can be ended.
func orders(ids []int) [][]int {
	if len(ids) == 0 {
		return [][]int{nil}
	}
	var every [][]int
	for at, n := range ids {
		rest := slices.Delete(slices.Clone(ids), at, at+1)
		for _, o := range orders(rest) {
			every = append(every, append([]int{n}, o...))
		}
	}
	return every
}

// nested serves five one inside the other, and ends the first of an order; least is the running priority then.
func nested(t *testing.T, order []int, many int) (v *Vgic, least int) {
	t.Helper()
	v = fresh(t, 2)
	ids := []int{12, 0, 63, 5, 62}
	least = 256
	for n, id := range ids {
		served(t, v, id, 250-60*n, n%2 == 0)
		if !slices.Contains(order[:many], id) {
			least = 250 - 60*n
		}
	}
	for _, id := range order[:many] {
		end(t, v, id, slices.Index(ids, id)%2 == 0, order)
		notActive(t, v, id, order)
	}
	return v, least
}

func TestV4EndedInAnyOrder(t *testing.T) {
	for _, order := range orders([]int{12, 0, 63, 5, 62}) {
		for many := range 6 {
			v, least := nested(t, order, many)
			counts(t, v, 5, 5, many)
			if n := len(v.All()); n != 5-many {
				t.Errorf("%d are active behind %d ends", n, many)
			}
			good(t, v.Inject(33, least-1, false))
			ack(t, v, 33, order, many)
			if least > 255 {
				continue
			}
			v, _ = nested(t, order, many)
			good(t, v.Inject(33, least, false))
			none(t, v, order, many)
		}
	}
}

// byOrder is the chapter's order, asked of each pair that stands one behind the other.
func byOrder(a, b api.Lr) bool {
	if a.Active != b.Active {
		return a.Active
	}
	if a.Priority != b.Priority {
		return a.Priority < b.Priority
	}
	return a.Id < b.Id
}

func TestV5AllsOrder(t *testing.T) {
	v := fresh(t, 1)
	served(t, v, 40, 90, true)
	served(t, v, 50, 80, false)
	served(t, v, 30, 70, true)
	good(t, v.Inject(50, 1, true), v.Inject(30, 255, false))
	good(t, v.Inject(0, 75, true), v.Inject(63, 2, false), v.Inject(62, 2, true), v.Inject(1, 75, false), v.Inject(20, 255, true))
	all(t, v,
		api.Lr{Id: 30, Priority: 70, Level: true, Pending: true, Active: true},
		api.Lr{Id: 50, Priority: 80, Pending: true, Active: true},
		api.Lr{Id: 40, Priority: 90, Level: true, Active: true},
		api.Lr{Id: 62, Priority: 2, Level: true, Pending: true},
		api.Lr{Id: 63, Priority: 2, Pending: true},
		api.Lr{Id: 0, Priority: 75, Level: true, Pending: true},
		api.Lr{Id: 1, Priority: 75, Pending: true},
		api.Lr{Id: 20, Priority: 255, Level: true, Pending: true},
	)
}

// TestV5ActiveAheadOfTheMoreUrgent has pending ones that are not heard, of lesser priorities and numbers.
func TestV5ActiveAheadOfTheMoreUrgent(t *testing.T) {
	v := fresh(t, 1)
	served(t, v, 60, 255, false)
	good(t, v.Enable(0, false), v.Inject(0, 0, false), v.SetMask(0), v.Inject(1, 1, true))
	all(t, v, api.Lr{Id: 60, Priority: 255, Active: true}, api.Lr{Priority: 0, Pending: true}, api.Lr{Id: 1, Priority: 1, Level: true, Pending: true})
	if l := v.Lrs(); len(l) != 1 || l[0] != (api.Lr{Id: 60, Priority: 255, Active: true}) {
		t.Errorf("Lrs = %+v, want the active one", l)
	}
}

func TestV5OneActiveOnePendingOfOnePriority(t *testing.T) {
	v := fresh(t, 16)
	good(t, v.Inject(9, 5, false), v.Inject(8, 5, false))
	ack(t, v, 8)
	none(t, v, "5 is not below 5")
	all(t, v, api.Lr{Id: 8, Priority: 5, Active: true}, api.Lr{Id: 9, Priority: 5, Pending: true})
}

// TestV5LrsAreTheBeginning has from none to all of them, and each count of list registers.
func TestV5LrsAreTheBeginning(t *testing.T) {
	for n := 1; n <= 16; n++ {
		v := fresh(t, n)
		for many := range 65 {
			every, held := v.All(), v.Lrs()
			if len(every) != many || len(held) != min(n, many) || !slices.Equal(held, every[:len(held)]) {
				t.Fatalf("New(%d), %d of them: Lrs = %+v, All = %+v", n, many, held, every)
			}
			for at := 1; at < many; at++ {
				if !byOrder(every[at-1], every[at]) {
					t.Fatalf("%+v stands ahead of %+v", every[at-1], every[at])
				}
			}
			if many == 64 {
				break
			}
			id := many * 37 % 64
			good(t, v.Inject(id, many*53%7, id%3 == 0))
			if many%5 == 0 {
				v.Ack()
			}
		}
	}
}

func TestV5Counts(t *testing.T) {
	v := fresh(t, 1)
	for round := range 50 {
		good(t, v.Inject(5, round, true), v.Inject(6, round, false))
		counts(t, v, 2*round+2, 2*round, 2*round)
		v.Inject(5, 0, true)
		v.Inject(64, 0, true)
		v.Inject(7, 256, true)
		counts(t, v, 2*round+2, 2*round, 2*round)
		ack(t, v, 5)
		counts(t, v, 2*round+2, 2*round+1, 2*round)
		none(t, v)
		counts(t, v, 2*round+2, 2*round+1, 2*round)
		notActive(t, v, 6)
		v.End(64)
		counts(t, v, 2*round+2, 2*round+1, 2*round)
		end(t, v, 5, true)
		counts(t, v, 2*round+2, 2*round+1, 2*round+1)
		ack(t, v, 6)
		end(t, v, 6, false)
		good(t, v.Enable(5, true), v.SetMask(256))
		counts(t, v, 2*round+2, 2*round+2, 2*round+2)
	}
}

func TestV5NothingChangesByAsking(t *testing.T) {
	for _, build := range []func() *Vgic{func() *Vgic { return fresh(t, 5) }, func() *Vgic { return busy(t) }} {
		unchanged(t, build, func(v *Vgic) {
			was := tell(v)
			for range 4 {
				if got := tell(v); got != was {
					t.Errorf("asked again: %+v, want %+v", got, was)
				}
			}
		}, "Next, Lrs, All and Counts")
	}
}

// TestR5ListsAreNobodyElses writes into lists that were told, and beyond their ends, and changes the controller behind others.
func TestR5ListsAreNobodyElses(t *testing.T) {
	unchanged(t, func() *Vgic { return busy(t) }, func(v *Vgic) {
		for _, list := range [][]api.Lr{v.All(), v.Lrs()} {
			list = append(list, api.Lr{Id: 33})
			list = list[:cap(list)]
			for n := range list {
				list[n] = api.Lr{Id: 44, Priority: 1, Level: true, Pending: true, Active: true}
			}
		}
	}, "who writes into a list")
	v := busy(t)
	every, held := v.All(), v.Lrs()
	held[0].Id = 55
	if every[0] != busyAll[0] {
		t.Error("All and Lrs share memory")
	}
	held[0].Id = 0
	ack(t, v, 3)
	end(t, v, 7, true)
	end(t, v, 0, false)
	good(t, v.Inject(4, 4, true), v.Enable(7, false), v.SetMask(0))
	v.All()
	v.Lrs()
	if !slices.Equal(every, busyAll) || !slices.Equal(held, busyAll[:3]) {
		t.Error("a list that was told has changed")
	}
}

func TestExamples(t *testing.T) {
	v := fresh(t, 1)
	good(t, v.Inject(7, 20, true), v.Inject(3, 20, false))
	if e := v.Inject(7, 1, false); e != 80 {
		t.Errorf("Inject(7) again = %v, want ErrPending", e)
	}
	if l := v.Lrs(); len(l) != 1 || l[0] != (api.Lr{Id: 3, Priority: 20, Pending: true}) {
		t.Errorf("Lrs = %+v, want 3, pending", l)
	}
	ack(t, v, 3)
	ack(t, v, 1023)
	good(t, v.Inject(5, 4, true))
	ack(t, v, 5)
	all(t, v, api.Lr{Id: 5, Priority: 4, Level: true, Active: true}, api.Lr{Id: 3, Priority: 20, Active: true}, api.Lr{Id: 7, Priority: 20, Level: true, Pending: true})
	end(t, v, 5, true)
	end(t, v, 3, false)
	if flag, e := v.End(3); flag || e != 70 {
		t.Errorf("End(3) again = %v, %v, want false, ErrActive", flag, e)
	}
	ack(t, v, 7)
	end(t, v, 7, true)
	refused(t, v.Inject(64, 0, false), v.Inject(0, 256, false))
	if v, e := New(17); v != nil || e != 1 {
		t.Errorf("New(17) = %v, %v, want nil, ErrArg", v, e)
	}
}

// TestExampleOfTheWhole is the document's fifth one.
func TestExampleOfTheWhole(t *testing.T) {
	v := fresh(t, 1)
	good(t, v.Inject(1, 20, false), v.Inject(2, 10, false))
	ack(t, v, 2)
	end(t, v, 2, false)
	ack(t, v, 1)
	end(t, v, 1, false)
	ack(t, v, 1023)
}

// source is a row of numbers that is the same each time.
type source uint64

func (s *source) below(n int) int {
	*s = *s*6364136223846793005 + 1442695040888963407
	return int(uint64(*s) >> 33 % uint64(n))
}

// The stages that an injection goes through.
const (
	waits = iota
	isServed
	isOver
)

// injection is one that was OK.
type injection struct {
	id, priority int
	level        bool
	stage        int
}

// model is the chapter's words, kept otherwise than the program keeps them: a book of all injections, none of which is ever struck out.
type model struct {
	book []injection
	on   [64]bool
	mask int
}

func newModel() *model {
	m := &model{mask: 256}
	for id := range m.on {
		m.on[id] = true
	}
	return m
}

// find is the place of the one of an id that is at a stage; -1, if there is none.
func (m *model) find(id, stage int) int {
	return slices.IndexFunc(m.book, func(i injection) bool { return i.id == id && i.stage == stage })
}

func (m *model) inject(id, priority int, level bool) api.Errno {
	if id < 0 || id > 63 || priority < 0 || priority > 255 {
		return api.ErrArg
	}
	if m.find(id, waits) >= 0 {
		return api.ErrPending
	}
	m.book = append(m.book, injection{id, priority, level, waits})
	return api.OK
}

func (m *model) enable(id int, on bool) api.Errno {
	if id < 0 || id > 63 {
		return api.ErrArg
	}
	m.on[id] = on
	return api.OK
}

func (m *model) setMask(mask int) api.Errno {
	if mask < 0 || mask > 256 {
		return api.ErrArg
	}
	m.mask = mask
	return api.OK
}

// heard are the places of those that may be, the first one being the next.
func (m *model) heard() []int {
	var places []int
	for at, i := range m.book {
		may := i.stage == waits && m.on[i.id] && m.find(i.id, isServed) < 0 && i.priority < m.mask
		for _, other := range m.book {
			may = may && (other.stage != isServed || i.priority < other.priority)
		}
		if may {
			places = append(places, at)
		}
	}
	slices.SortFunc(places, func(a, b int) int {
		return (m.book[a].priority-m.book[b].priority)*64 + m.book[a].id - m.book[b].id
	})
	return places
}

func (m *model) next() (int, bool) {
	if h := m.heard(); len(h) > 0 {
		return m.book[h[0]].id, true
	}
	return 0, false
}

func (m *model) ack() int {
	h := m.heard()
	if len(h) == 0 {
		return 1023
	}
	m.book[h[0]].stage = isServed
	return m.book[h[0]].id
}

func (m *model) end(id int) (bool, api.Errno) {
	if id < 0 || id > 63 {
		return false, api.ErrArg
	}
	at := m.find(id, isServed)
	if at < 0 {
		return false, api.ErrActive
	}
	m.book[at].stage = isOver
	return m.book[at].level, api.OK
}

func (m *model) all() []api.Lr {
	var list []api.Lr
	for id := range 64 {
		p, a := m.find(id, waits), m.find(id, isServed)
		if at := max(p, a); at >= 0 {
			if a >= 0 {
				at = a
			}
			list = append(list, api.Lr{Id: id, Priority: m.book[at].priority, Level: m.book[at].level, Pending: p >= 0, Active: a >= 0})
		}
	}
	slices.SortFunc(list, func(a, b api.Lr) int {
		if byOrder(a, b) {
			return -1
		}
		return 1
	})
	return list
}

func (m *model) counts() (injected, acked, ended int) {
	for _, i := range m.book {
		injected++
		if i.stage >= isServed {
			acked++
		}
		if i.stage == isOver {
			ended++
		}
	}
	return
}

func same(t *testing.T, v *Vgic, m *model, lrs int, where ...any) {
	t.Helper()
	id, ok := v.Next()
	if n, there := m.next(); id != n || ok != there {
		t.Fatalf("%v: Next = %d, %v, want %d, %v", where, id, ok, n, there)
	}
	want := m.all()
	if got := v.All(); !slices.Equal(got, want) {
		t.Fatalf("%v: All = %+v, want %+v", where, got, want)
	}
	if got := v.Lrs(); !slices.Equal(got, want[:min(lrs, len(want))]) {
		t.Fatalf("%v: Lrs = %+v, want the first %d of %+v", where, got, lrs, want)
	}
	a, b, c := v.Counts()
	if x, y, z := m.counts(); a != x || b != y || c != z {
		t.Fatalf("%v: Counts = %d, %d, %d, want %d, %d, %d", where, a, b, c, x, y, z)
	}
}

// answer is what a call told: a flag, a number, an error.
type answer struct {
	flag bool
	n    int
	e    api.Errno
}

// act is a call, with all its arguments.
type act struct {
	what         string
	id, priority int
	flag         bool
}

func (a act) on(v *Vgic) (x answer) {
	switch a.what {
	case "inject":
		x.e = v.Inject(a.id, a.priority, a.flag)
	case "enable":
		x.e = v.Enable(a.id, a.flag)
	case "mask":
		x.e = v.SetMask(a.priority)
	case "ack":
		x.n = v.Ack()
	case "end":
		x.flag, x.e = v.End(a.id)
	}
	return x
}

func (a act) onModel(m *model) (x answer) {
	switch a.what {
	case "inject":
		x.e = m.inject(a.id, a.priority, a.flag)
	case "enable":
		x.e = m.enable(a.id, a.flag)
	case "mask":
		x.e = m.setMask(a.priority)
	case "ack":
		x.n = m.ack()
	case "end":
		x.flag, x.e = m.end(a.id)
	}
	return x
}

// someId is of few in most runs, that they meet, and now and then none at all.
func someId(s *source, ids int) int {
	if s.below(25) == 0 {
		return wrongIds()[s.below(len(wrongIds()))]
	}
	return s.below(ids) * 63 / max(ids-1, 1)
}

func somePriority(s *source) int {
	switch s.below(12) {
	case 0:
		return wrongPriorities()[s.below(len(wrongPriorities()))]
	case 1:
		return []int{0, 1, 254, 255}[s.below(4)]
	case 2, 3, 4:
		return s.below(256)
	}
	return 10 * s.below(8)
}

func someMask(s *source) int {
	switch s.below(8) {
	case 0:
		return wrongMasks()[s.below(len(wrongMasks()))]
	case 1:
		return s.below(257)
	case 2:
		return 10 * s.below(9)
	}
	return 256
}

func someAct(s *source, ids int) act {
	id := someId(s, ids)
	switch s.below(14) {
	case 0, 1, 2, 3, 4:
		return act{"inject", id, somePriority(s), s.below(2) == 0}
	case 5, 6:
		return act{"enable", id, 0, s.below(4) > 0}
	case 7:
		return act{"mask", 0, someMask(s), false}
	case 8, 9, 10:
		return act{what: "ack"}
	}
	return act{what: "end", id: id}
}

// TestModel plays long rows of acts, of few ids and of all, and holds all that is told against the model.
func TestModel(t *testing.T) {
	deep, both := 0, 0
	for _, ids := range []int{1, 2, 3, 5, 9, 64} {
		for run := range 30 {
			s := source(1000*ids + run)
			lrs := 1 + run%16
			v, m := fresh(t, lrs), newModel()
			for at := range 200 {
				a := someAct(&s, ids)
				if got, want := a.on(v), a.onModel(m); got != want {
					t.Fatalf("ids %d, run %d, act %d, %+v: %+v, want %+v", ids, run, at, a, got, want)
				}
				same(t, v, m, lrs, ids, run, at, a)
				active := 0
				for _, l := range v.All() {
					if l.Active {
						active++
					}
					if l.Active && l.Pending {
						both++
					}
				}
				deep = max(deep, active)
			}
		}
	}
	if deep < 4 || both == 0 {
		t.Errorf("at most %d were active at once, %d were both: the rows are too tame", deep, both)
	}
}

// TestAllShortRows plays every row of up to five of some acts of two ids.
func TestAllShortRows(t *testing.T) {
	acts := []act{
		{"inject", 0, 10, true}, {"inject", 0, 5, false}, {"inject", 63, 10, false}, {"inject", 63, 20, true},
		{what: "ack"}, {what: "end"}, {what: "end", id: 63},
		{"enable", 0, 0, false}, {"enable", 0, 0, true}, {"mask", 0, 10, false}, {"mask", 0, 11, false},
	}
	many := 1
	for long := 1; long <= 5; long++ {
		many *= len(acts)
		for row := range many {
			v, m := fresh(t, 1), newModel()
			rest := row
			for range long {
				a := acts[rest%len(acts)]
				rest /= len(acts)
				if got, want := a.on(v), a.onModel(m); got != want {
					t.Fatalf("row %d of %d acts, %+v: %+v, want %+v", row, long, a, got, want)
				}
			}
			same(t, v, m, 1, row, long)
		}
	}
}

// TestV6ListRegistersAreNotSeen plays the same acts on controllers of each count of list registers.
func TestV6ListRegistersAreNotSeen(t *testing.T) {
	for _, ids := range []int{3, 9, 64} {
		var vs [16]*Vgic
		for n := range vs {
			vs[n] = fresh(t, n+1)
		}
		s := source(ids)
		for at := range 600 {
			a := someAct(&s, ids)
			want := a.on(vs[0])
			first := tell(vs[0])
			for n, v := range vs[1:] {
				if got := a.on(v); got != want {
					t.Fatalf("act %d, %+v: %+v with 1, %+v with %d list registers", at, a, want, got, n+2)
				}
				got := tell(v)
				if got.held != min(n+2, got.many) {
					t.Fatalf("act %d: Lrs tells %d of %d, with %d list registers", at, got.held, got.many, n+2)
				}
				got.lrs, got.held = first.lrs, first.held
				if got != first {
					t.Fatalf("act %d: %+v with 1, %+v with %d list registers", at, first, got, n+2)
				}
			}
		}
	}
}

// book is what a test keeps of each id on its own.
type book struct{ injected, acked, flagged, told [64]int }

// TestV6NoneTooOftenNoneLost counts what was injected and acknowledged of each id, and looks for the difference among the pending.
func TestV6NoneTooOftenNoneLost(t *testing.T) {
	for _, ids := range []int{1, 4, 16, 64} {
		for run := range 20 {
			s := source(31*ids + run)
			v := fresh(t, 1+run%16)
			var b book
			for at := range 300 {
				a := someAct(&s, ids)
				x := a.on(v)
				switch {
				case a.what == "inject" && x.e == api.OK:
					b.injected[a.id]++
					if a.flag {
						b.flagged[a.id]++
					}
				case a.what == "ack" && x.n != 1023:
					b.acked[x.n]++
				case a.what == "end" && x.flag:
					b.told[a.id]++
				}
				b.holds(t, v, ids, run, at, a)
			}
			b.settles(t, v)
		}
	}
}

func (b *book) holds(t *testing.T, v *Vgic, where ...any) {
	t.Helper()
	var pending [64]int
	for _, l := range v.All() {
		if l.Pending {
			pending[l.Id] = 1
		}
	}
	for id := range 64 {
		if b.injected[id]-b.acked[id] != pending[id] || b.told[id] > b.flagged[id] {
			t.Fatalf("%v: %d was injected %d times, acknowledged %d times, and pending is %d of it; flagged %d times, told %d times", where, id, b.injected[id], b.acked[id], pending[id], b.flagged[id], b.told[id])
		}
	}
}

// settles ends all, hears all, and wants each injection acknowledged, and each flag told, once.
func (b *book) settles(t *testing.T, v *Vgic) {
	t.Helper()
	note := func(id int) {
		if flag, _ := v.End(id); flag {
			b.told[id]++
		}
	}
	for id := range 64 {
		note(id)
		good(t, v.Enable(id, true))
	}
	good(t, v.SetMask(256))
	for range 64 {
		if n := v.Ack(); n != 1023 {
			b.acked[n]++
			note(n)
		}
	}
	if b.acked != b.injected || b.told != b.flagged {
		t.Errorf("acknowledged %v of %v, told %v of %v", b.acked, b.injected, b.told, b.flagged)
	}
	all(t, v)
}

// TestV6PendingTillAcknowledged has one wait behind each thing that keeps it from being heard, and behind what others do.
func TestV6PendingTillAcknowledged(t *testing.T) {
	v := fresh(t, 1)
	served(t, v, 1, 50, false)
	good(t, v.Enable(9, false), v.Inject(9, 60, true))
	none(t, v, "not enabled")
	good(t, v.Enable(9, true))
	none(t, v, "60 is not below 50")
	end(t, v, 1, false)
	good(t, v.SetMask(60))
	none(t, v, "60 is not below 60")
	good(t, v.SetMask(61))
	served(t, v, 2, 59, false)
	end(t, v, 2, false)
	notActive(t, v, 9)
	all(t, v, api.Lr{Id: 9, Priority: 60, Level: true, Pending: true})
	ack(t, v, 9)
	none(t, v, "it was injected once")
	end(t, v, 9, true)
	notActive(t, v, 9, "it says so once")
	none(t, v, "it was injected once")
}

func TestR6TwoControllers(t *testing.T) {
	v, other := busy(t), fresh(t, 3)
	was, begin := tell(v), tell(fresh(t, 3))
	s := source(5)
	for range 300 {
		someAct(&s, 9).on(other)
		if tell(v) != was {
			t.Fatal("another controller's acts change this one's answers")
		}
	}
	if tell(fresh(t, 3)) != begin {
		t.Error("a new controller is not as the first one was")
	}
	ack(t, v, 3)
	unchanged(t, func() *Vgic { return busy(t) }, func(*Vgic) {
		w := busy(t)
		good(t, w.SetMask(0), w.Enable(2, true), w.Enable(3, false))
		end(t, w, 7, true)
	}, "another controller")
}

func TestR6TheSameActsTheSameAnswers(t *testing.T) {
	for run := range 20 {
		a, b := fresh(t, 4), fresh(t, 4)
		s := source(77 + run)
		for at := range 300 {
			x := someAct(&s, 64)
			if y, z := x.on(a), x.on(b); y != z || tell(a) != tell(b) {
				t.Fatalf("act %d: %+v and %+v", at, y, z)
			}
		}
	}
}

// TestR1AnyNumbers tries each call at the edges of ints, all against all.
func TestR1AnyNumbers(t *testing.T) {
	numbers := append([]int{0, 1, 62, 63, 64, 254, 255, 256}, farNumbers...)
	v, m := fresh(t, 16), newModel()
	for _, id := range numbers {
		for _, p := range numbers {
			for _, a := range []act{{"inject", id, p, p%2 == 0}, {"mask", id, p, false}, {"enable", id, p, p%3 != 0}, {what: "ack"}, {what: "end", id: id}} {
				if got, want := a.on(v), a.onModel(m); got != want {
					t.Fatalf("%+v: %+v, want %+v", a, got, want)
				}
			}
		}
	}
	same(t, v, m, 16)
}
