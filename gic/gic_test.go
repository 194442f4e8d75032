package gic

import (
	"math"
	"slices"
	"testing"

	"viceroy/api"
)

// farNumbers are no line, no priority and no mask; some would be one if they were cut to fewer bits.
var farNumbers = []int{-1, -2, -31, -32, -33, -255, -256, -257, 257, 258, 511, 512, 1023, 1024, 1 << 16, 1<<16 + 3, 1<<31 - 1, 1 << 31, 1 << 32, 1<<32 + 3, -1 << 32, -1<<32 + 3, 1 << 62, math.MaxInt - 1, math.MaxInt, math.MinInt, math.MinInt + 1, math.MinInt + 3}

func wrongLines() []int { return append([]int{32, 33, 63, 64, 255, 256}, farNumbers...) }

func wrongPriorities() []int { return append([]int{256}, farNumbers...) }

func wrongMasks() []int { return farNumbers }

func good(t *testing.T, errs ...api.Errno) {
	t.Helper()
	for n, e := range errs {
		if e != api.OK {
			t.Fatalf("call %d of %d: %v", n+1, len(errs), e)
		}
	}
}

// refused wants ErrArg of all of them.
func refused(t *testing.T, errs ...api.Errno) {
	t.Helper()
	for n, e := range errs {
		if e != api.ErrArg {
			t.Errorf("call %d of %d: %v, want ErrArg", n+1, len(errs), e)
		}
	}
}

// ready enables and raises a line of a priority.
func ready(t *testing.T, g *Gic, line, priority int) {
	t.Helper()
	good(t, g.SetPriority(line, priority), g.Enable(line, true), g.Raise(line))
}

func next(t *testing.T, g *Gic, want int, after ...any) {
	t.Helper()
	if line, ok := g.Next(); line != want || !ok {
		t.Errorf("Next = %d, %v, want %d, true, after %v", line, ok, want, after)
	}
}

func none(t *testing.T, g *Gic, after ...any) {
	t.Helper()
	if line, ok := g.Next(); line != 0 || ok {
		t.Errorf("Next = %d, %v, want 0, false, after %v", line, ok, after)
	}
}

func ack(t *testing.T, g *Gic, want int, after ...any) {
	t.Helper()
	if line := g.Ack(); line != want {
		t.Fatalf("Ack = %d, want %d, after %v", line, want, after)
	}
}

func running(t *testing.T, g *Gic, want int, after ...any) {
	t.Helper()
	if got := g.Running(); got != want {
		t.Errorf("Running = %d, want %d, after %v", got, want, after)
	}
}

func state(t *testing.T, g *Gic, line int) api.Lr {
	t.Helper()
	s, e := g.State(line)
	if e != api.OK {
		t.Fatalf("State(%d): %v", line, e)
	}
	return s
}

func is(t *testing.T, g *Gic, want api.Lr, after ...any) {
	t.Helper()
	if got := state(t, g, want.Id); got != want {
		t.Errorf("State(%d) = %+v, want %+v, after %v", want.Id, got, want, after)
	}
}

// told is all that a controller tells without a change.
type told struct {
	lines   [32]api.Lr
	line    int
	ok      bool
	running int
}

func tell(t *testing.T, g *Gic) told {
	t.Helper()
	var all told
	for n := range all.lines {
		all.lines[n] = state(t, g, n)
	}
	all.line, all.ok = g.Next()
	all.running = g.Running()
	return all
}

// maskOf finds the mask, which no call tells: one above the least urgent priority of which a line is heard.
// It quiets all lines for that, so nothing but the mask stays as it was.
func maskOf(t *testing.T, g *Gic) int {
	t.Helper()
	for n := range 32 {
		good(t, g.Lower(n))
		g.End(n)
	}
	good(t, g.Enable(31, true), g.Raise(31))
	for p := 255; p >= 0; p-- {
		good(t, g.SetPriority(31, p))
		if _, ok := g.Next(); ok {
			return p + 1
		}
	}
	return 0
}

// busy has lines of each kind: one served inside another, active and pending again, pending and not enabled,
// enabled and not pending, and one that waits.
func busy(t *testing.T) *Gic {
	t.Helper()
	g := New()
	ready(t, g, 7, 100)
	ack(t, g, 7)
	ready(t, g, 31, 50)
	ack(t, g, 31)
	good(t, g.Raise(7), g.SetPriority(31, 60))
	good(t, g.SetPriority(1, 5), g.Raise(1))
	good(t, g.SetPriority(2, 6), g.Enable(2, true))
	ready(t, g, 0, 49)
	ready(t, g, 3, 20)
	good(t, g.SetMask(40))
	return g
}

func TestI1New(t *testing.T) {
	g := New()
	for n := range 32 {
		is(t, g, api.Lr{Id: n, Priority: 255})
	}
	running(t, g, 256)
	none(t, g)
	ack(t, g, 1023)
	for n := range 32 {
		is(t, g, api.Lr{Id: n, Priority: 255}, "Ack")
		if e := g.End(n); e != api.ErrActive {
			t.Errorf("End(%d) = %v, want ErrActive", n, e)
		}
	}
}

func TestI1NewMask(t *testing.T) {
	for n := range 32 {
		g := New()
		good(t, g.Enable(n, true), g.Raise(n))
		next(t, g, n)
		running(t, g, 256)
	}
	if m := maskOf(t, New()); m != 256 {
		t.Errorf("the mask is %d, want 256", m)
	}
}

func TestI2RaiseAndLower(t *testing.T) {
	for n := range 32 {
		g := New()
		for range 2 {
			good(t, g.Raise(n))
			is(t, g, api.Lr{Id: n, Priority: 255, Pending: true}, "Raise")
		}
		for range 2 {
			good(t, g.Lower(n))
			is(t, g, api.Lr{Id: n, Priority: 255}, "Lower")
		}
	}
}

func TestI2Enable(t *testing.T) {
	for n := range 32 {
		g := New()
		for _, on := range []bool{false, true, true, false, false, true} {
			good(t, g.Enable(n, on))
			is(t, g, api.Lr{Id: n, Priority: 255, Level: on}, "Enable", on)
		}
	}
}

func TestI2SetPriority(t *testing.T) {
	g := New()
	for n := range 32 {
		for p := range 256 {
			good(t, g.SetPriority(n, p))
			is(t, g, api.Lr{Id: n, Priority: p}, "SetPriority", p)
		}
		good(t, g.SetPriority(n, n))
	}
	for n := range 32 {
		is(t, g, api.Lr{Id: n, Priority: n}, "all were set")
	}
}

func TestI2SetMask(t *testing.T) {
	for m := 0; m <= 256; m++ {
		g := New()
		good(t, g.SetMask(m))
		if got := maskOf(t, g); got != m {
			t.Errorf("SetMask(%d): the mask is %d", m, got)
		}
		is(t, g, api.Lr{Id: 5, Priority: 255}, "SetMask", m)
	}
}

// TestI2OneLineAlone does each of the acts to each line, and looks at the others.
func TestI2OneLineAlone(t *testing.T) {
	for n := range 32 {
		g := busy(t)
		was := tell(t, g)
		acts := []func() api.Errno{
			func() api.Errno { return g.Raise(n) },
			func() api.Errno { return g.Enable(n, true) },
			func() api.Errno { return g.SetPriority(n, 3) },
			func() api.Errno { return g.Enable(n, false) },
			func() api.Errno { return g.Lower(n) },
		}
		for at, act := range acts {
			good(t, act())
			for other := range 32 {
				if other != n {
					is(t, g, was.lines[other], "act", at, "at", n)
				}
			}
			if s := state(t, g, n); s.Active != was.lines[n].Active {
				t.Errorf("act %d makes the line %d active: %v", at, n, s.Active)
			}
			running(t, g, 50, "act", at, "at", n)
		}
	}
}

func TestI2WrongLines(t *testing.T) {
	for _, n := range wrongLines() {
		g := busy(t)
		was := tell(t, g)
		refused(t, g.Raise(n), g.Lower(n), g.Enable(n, true), g.Enable(n, false), g.SetPriority(n, 0), g.SetPriority(n, 255), g.SetPriority(n, 256), g.SetPriority(n, n), g.End(n))
		if s, e := g.State(n); s != (api.Lr{}) || e != api.ErrArg {
			t.Errorf("State(%d) = %+v, %v, want a zero one, ErrArg", n, s, e)
		}
		if tell(t, g) != was || maskOf(t, g) != 40 {
			t.Errorf("what was refused at the line %d changed something", n)
		}
	}
}

func TestI2WrongPriorities(t *testing.T) {
	for _, p := range wrongPriorities() {
		g := busy(t)
		was := tell(t, g)
		for n := range 32 {
			refused(t, g.SetPriority(n, p))
		}
		if tell(t, g) != was || maskOf(t, g) != 40 {
			t.Errorf("SetPriority of %d changed something", p)
		}
	}
}

func TestI2WrongMasks(t *testing.T) {
	for _, m := range wrongMasks() {
		g := busy(t)
		was := tell(t, g)
		refused(t, g.SetMask(m))
		if tell(t, g) != was || maskOf(t, g) != 40 {
			t.Errorf("SetMask(%d) changed something", m)
		}
	}
}

// TestI3EachNeed takes one of the needs of being heard away, and gives it back.
func TestI3EachNeed(t *testing.T) {
	for n := range 32 {
		g := New()
		good(t, g.SetPriority(n, 9))
		none(t, g, "neither enabled nor pending")
		good(t, g.Enable(n, true))
		none(t, g, "enabled, not pending")
		ack(t, g, 1023, "enabled, not pending")
		good(t, g.Raise(n))
		next(t, g, n, "enabled, pending")
		good(t, g.Enable(n, false))
		none(t, g, "pending, not enabled")
		ack(t, g, 1023, "pending, not enabled")
		good(t, g.Enable(n, true))
		next(t, g, n, "enabled again")
		good(t, g.Lower(n))
		none(t, g, "lowered")
		good(t, g.Raise(n))
		ack(t, g, n)
		good(t, g.Raise(n), g.SetPriority(n, 0))
		none(t, g, "active, pending again, more urgent than itself")
		ack(t, g, 1023, "active, pending again")
		good(t, g.End(n))
		next(t, g, n, "not active any more")
	}
}

func TestI3BelowTheMask(t *testing.T) {
	g := New()
	for m := 0; m <= 256; m++ {
		good(t, g.SetMask(m))
		for _, p := range []int{0, m - 1, m, m + 1, 255} {
			if p < 0 || p > 255 {
				continue
			}
			ready(t, g, 4, p)
			if p < m {
				next(t, g, 4, "mask", m, "priority", p)
			} else {
				none(t, g, "mask", m, "priority", p)
			}
		}
	}
}

func TestI3BelowTheRunning(t *testing.T) {
	for r := range 256 {
		g := New()
		ready(t, g, 20, r)
		ack(t, g, 20)
		running(t, g, r)
		for _, p := range []int{0, r - 1, r, r + 1, 255} {
			if p < 0 || p > 255 {
				continue
			}
			ready(t, g, 4, p)
			if p < r {
				next(t, g, 4, "running", r, "priority", p)
			} else {
				none(t, g, "running", r, "priority", p)
				ack(t, g, 1023, "running", r, "priority", p)
			}
		}
	}
}

// TestI3MaskAndRunning has now the one and now the other as the lesser bound.
func TestI3MaskAndRunning(t *testing.T) {
	g := New()
	ready(t, g, 8, 100)
	ack(t, g, 8)
	ready(t, g, 9, 60)
	for _, c := range []struct {
		mask, priority int
		heard          bool
	}{{256, 99, true}, {256, 100, false}, {100, 99, true}, {61, 60, true}, {60, 60, false}, {60, 59, true}, {99, 99, false}, {101, 100, false}, {101, 99, true}, {1, 0, true}, {0, 0, false}} {
		good(t, g.SetMask(c.mask), g.SetPriority(9, c.priority))
		if c.heard {
			next(t, g, 9, c)
		} else {
			none(t, g, c)
		}
	}
}

func TestI3LeastPriorityFirst(t *testing.T) {
	for a := range 32 {
		for b := range 32 {
			if a == b {
				continue
			}
			g := New()
			ready(t, g, a, 11)
			ready(t, g, b, 10)
			next(t, g, b, a, b)
			good(t, g.SetPriority(a, 10))
			next(t, g, min(a, b), "equal ones", a, b)
		}
	}
}

// TestI3ThoseNotHeardDoNotHide has more urgent lines that may not be heard ahead of and behind the one that may.
func TestI3ThoseNotHeardDoNotHide(t *testing.T) {
	g := New()
	ready(t, g, 15, 200)
	for _, n := range []int{0, 14, 16, 31} {
		good(t, g.SetPriority(n, 1), g.Raise(n))
		next(t, g, 15, n, "is not enabled")
		good(t, g.Lower(n), g.Enable(n, true))
		next(t, g, 15, n, "is not pending")
	}
}

func TestI3AllLines(t *testing.T) {
	g := New()
	for n := range 32 {
		ready(t, g, n, 3*((n*7)%8))
	}
	var order []int
	for range 40 {
		n := g.Ack()
		if n == 1023 {
			break
		}
		order = append(order, n)
		good(t, g.End(n))
	}
	want := make([]int, 32)
	for n := range want {
		want[n] = n
	}
	slices.SortStableFunc(want, func(a, b int) int { return a*7%8 - b*7%8 })
	if !slices.Equal(order, want) {
		t.Errorf("acknowledged: %v, want %v", order, want)
	}
}

func TestI4Ack(t *testing.T) {
	for n := range 32 {
		g := New()
		ready(t, g, n, 33)
		ack(t, g, n)
		is(t, g, api.Lr{Id: n, Priority: 33, Level: true, Active: true}, "Ack")
		running(t, g, 33)
		good(t, g.Raise(n))
		is(t, g, api.Lr{Id: n, Priority: 33, Level: true, Pending: true, Active: true}, "raised again")
		good(t, g.Lower(n), g.Enable(n, false))
		is(t, g, api.Lr{Id: n, Priority: 33, Active: true}, "lowered, not enabled")
		running(t, g, 33)
		good(t, g.End(n))
		is(t, g, api.Lr{Id: n, Priority: 33}, "End")
		running(t, g, 256)
	}
}

func TestI4AckOfNoneChangesNothing(t *testing.T) {
	g := busy(t)
	good(t, g.Lower(3))
	was := tell(t, g)
	for range 3 {
		ack(t, g, 1023)
	}
	if tell(t, g) != was || maskOf(t, g) != 40 {
		t.Error("Ack of none changed something")
	}
}

func TestI4AckChangesOneLine(t *testing.T) {
	g := busy(t)
	was := tell(t, g)
	ack(t, g, 3)
	was.lines[3].Pending, was.lines[3].Active = false, true
	was.line, was.ok, was.running = 0, false, 20
	if got := tell(t, g); got != was {
		t.Errorf("after Ack: %+v, want %+v", got, was)
	}
}

func TestI4End(t *testing.T) {
	g := busy(t)
	was := tell(t, g)
	for n := range 32 {
		if n == 7 || n == 31 {
			continue
		}
		if e := g.End(n); e != api.ErrActive {
			t.Errorf("End(%d) = %v, want ErrActive", n, e)
		}
	}
	if tell(t, g) != was {
		t.Error("End of lines that are not active changed something")
	}
	good(t, g.End(31))
	was.lines[31].Active = false
	was.running = 100
	if got := tell(t, g); got != was {
		t.Errorf("after End(31): %+v, want %+v", got, was)
	}
	if e := g.End(31); e != api.ErrActive {
		t.Errorf("End(31) again = %v, want ErrActive", e)
	}
	good(t, g.End(7))
	was.lines[7].Active = false
	was.running = 256
	if got := tell(t, g); got != was {
		t.Errorf("after End(7): %+v, want %+v", got, was)
	}
	if m := maskOf(t, g); m != 40 {
		t.Errorf("the mask is %d, want 40", m)
	}
}

func TestI4AnActiveLineOfThePriorityNought(t *testing.T) {
	g := New()
	ready(t, g, 0, 0)
	ack(t, g, 0)
	is(t, g, api.Lr{Level: true, Active: true})
	running(t, g, 0)
	ready(t, g, 1, 0)
	none(t, g, "0 is not below 0")
	good(t, g.End(0))
	next(t, g, 1)
}

func TestI4AnActiveLineOfThePriority255(t *testing.T) {
	g := New()
	ready(t, g, 31, 255)
	ack(t, g, 31)
	is(t, g, api.Lr{Id: 31, Priority: 255, Level: true, Active: true})
	running(t, g, 255)
	ready(t, g, 1, 255)
	none(t, g, "255 is not below 255")
	good(t, g.SetPriority(1, 254))
	next(t, g, 1)
}

// orders are all in which the lines can be ended.
func orders(lines []int) [][]int {
	if len(lines) == 0 {
		return [][]int{nil}
	}
	var all [][]int
	for at, n := range lines {
		rest := slices.Delete(slices.Clone(lines), at, at+1)
		for _, o := range orders(rest) {
			all = append(all, append([]int{n}, o...))
		}
	}
	return all
}

// TestI4EndedInAnyOrder serves five lines one inside the other.
func TestI4EndedInAnyOrder(t *testing.T) {
	lines := []int{12, 0, 31, 5, 30}
	for _, order := range orders(lines) {
		g := New()
		at := map[int]int{}
		for n, line := range lines {
			at[line] = 250 - 60*n
			ready(t, g, line, at[line])
			ack(t, g, line)
			running(t, g, at[line])
		}
		for _, line := range order {
			good(t, g.End(line))
			delete(at, line)
			least := 256
			for _, p := range at {
				least = min(least, p)
			}
			running(t, g, least, "the order", order, "till", line)
			if e := g.End(line); e != api.ErrActive {
				t.Errorf("End(%d) again = %v, want ErrActive", line, e)
			}
		}
	}
}

// TestI5PriorityOfTheAcknowledgement sets priorities anew while their lines are served.
func TestI5PriorityOfTheAcknowledgement(t *testing.T) {
	for _, p := range []int{0, 1, 99, 100, 101, 254, 255} {
		g := New()
		ready(t, g, 6, 100)
		ack(t, g, 6)
		good(t, g.SetPriority(6, p))
		running(t, g, 100, "set to", p)
		is(t, g, api.Lr{Id: 6, Priority: p, Level: true, Active: true})
		ready(t, g, 2, 99)
		next(t, g, 2, "set to", p)
		good(t, g.SetPriority(2, 100))
		none(t, g, "set to", p)
		good(t, g.Lower(2), g.End(6))
		running(t, g, 256, "End, set to", p)
		good(t, g.Raise(6))
		ack(t, g, 6)
		running(t, g, p, "acknowledged anew")
	}
}

func TestI5NothingChangesByAsking(t *testing.T) {
	for _, g := range []*Gic{New(), busy(t)} {
		was := tell(t, g)
		for range 4 {
			for n := -1; n <= 32; n++ {
				g.State(n)
				g.Next()
				g.Running()
			}
		}
		if got := tell(t, g); got != was {
			t.Errorf("asked again: %+v, want %+v", got, was)
		}
	}
	g := busy(t)
	tell(t, g)
	ack(t, g, 3)
}

func TestI5StateIsACopy(t *testing.T) {
	g := busy(t)
	was := state(t, g, 7)
	s := state(t, g, 7)
	s.Priority, s.Active, s.Pending = 1, false, false
	is(t, g, was)
	good(t, g.SetPriority(7, 2), g.End(7))
	if s.Priority != 1 || was.Priority != 100 || !was.Active {
		t.Error("a state that was told has changed")
	}
}

func TestExamples(t *testing.T) {
	g := New()
	good(t, g.Enable(3, true), g.Enable(5, true), g.SetPriority(5, 10), g.Raise(3), g.Raise(5))
	next(t, g, 5)
	ack(t, g, 5)
	ack(t, g, 1023)
	good(t, g.SetPriority(3, 4))
	ack(t, g, 3)
	running(t, g, 4)
	good(t, g.End(5))
	running(t, g, 4)
	if e := g.End(5); e != 70 {
		t.Errorf("End(5) again = %v, want ErrActive", e)
	}
	good(t, g.End(3))
	running(t, g, 256)
	refused(t, g.Raise(32), g.SetPriority(0, 256), g.SetMask(257))
}

// source is a row of numbers that is the same each time.
type source uint64

func (s *source) below(n int) int {
	*s = *s*6364136223846793005 + 1442695040888963407
	return int(uint64(*s) >> 33 % uint64(n))
}

// model is the chapter's words, kept otherwise than the program keeps them: sets of lines, and a list of those served.
type model struct {
	enabled, pending map[int]bool
	priority         map[int]int
	served           [][2]int // a line, and its priority at its acknowledgement
	mask             int
}

func newModel() *model {
	m := &model{enabled: map[int]bool{}, pending: map[int]bool{}, priority: map[int]int{}, mask: 256}
	for n := range 32 {
		m.priority[n] = 255
	}
	return m
}

func (m *model) place(line int) int {
	return slices.IndexFunc(m.served, func(s [2]int) bool { return s[0] == line })
}

func (m *model) running() int {
	least := 256
	for _, s := range m.served {
		if s[1] < least {
			least = s[1]
		}
	}
	return least
}

func (m *model) next() (int, bool) {
	var heard []int
	for n := range 32 {
		if m.enabled[n] && m.pending[n] && m.place(n) < 0 && m.priority[n] < m.mask && m.priority[n] < m.running() {
			heard = append(heard, n)
		}
	}
	if len(heard) == 0 {
		return 0, false
	}
	slices.SortStableFunc(heard, func(a, b int) int { return m.priority[a] - m.priority[b] })
	return heard[0], true
}

func (m *model) ack() int {
	n, ok := m.next()
	if !ok {
		return 1023
	}
	delete(m.pending, n)
	m.served = append(m.served, [2]int{n, m.priority[n]})
	return n
}

func (m *model) end(line int) api.Errno {
	if line < 0 || line > 31 {
		return api.ErrArg
	}
	at := m.place(line)
	if at < 0 {
		return api.ErrActive
	}
	m.served = slices.Delete(m.served, at, at+1)
	return api.OK
}

func (m *model) state(line int) (api.Lr, api.Errno) {
	if line < 0 || line > 31 {
		return api.Lr{}, api.ErrArg
	}
	return api.Lr{Id: line, Priority: m.priority[line], Level: m.enabled[line], Pending: m.pending[line], Active: m.place(line) >= 0}, api.OK
}

// set does an act that only a wrong number can keep from being done.
func (m *model) set(right bool, do func()) api.Errno {
	if !right {
		return api.ErrArg
	}
	do()
	return api.OK
}

// someLine is of few lines in most runs, that they meet, and now and then none at all.
func someLine(s *source, lines int) int {
	if s.below(25) == 0 {
		return wrongLines()[s.below(len(wrongLines()))]
	}
	return (s.below(lines) * 31 / max(lines-1, 1)) % 32
}

func somePriority(s *source) int {
	switch s.below(12) {
	case 0:
		return wrongPriorities()[s.below(len(wrongPriorities()))]
	case 1:
		return []int{0, 1, 254, 255}[s.below(4)]
	case 2, 3, 4:
		return s.below(256)
	}
	return 10 * s.below(8)
}

func someMask(s *source) int {
	switch s.below(8) {
	case 0:
		return wrongMasks()[s.below(len(wrongMasks()))]
	case 1:
		return s.below(257)
	case 2:
		return 10 * s.below(9)
	}
	return 256
}

// step does one act to both, and answers what they told of it.
func step(g *Gic, m *model, s *source, lines int) (got, want any) {
	n := someLine(s, lines)
	is := n >= 0 && n <= 31
	switch s.below(14) {
	case 0, 1, 2, 3:
		return g.Raise(n), m.set(is, func() { m.pending[n] = true })
	case 4:
		return g.Lower(n), m.set(is, func() { delete(m.pending, n) })
	case 5, 6:
		on := s.below(4) > 0
		return g.Enable(n, on), m.set(is, func() { m.enabled[n] = on })
	case 7, 8:
		p := somePriority(s)
		return g.SetPriority(n, p), m.set(is && p >= 0 && p <= 255, func() { m.priority[n] = p })
	case 9:
		k := someMask(s)
		return g.SetMask(k), m.set(k >= 0 && k <= 256, func() { m.mask = k })
	case 10, 11, 12:
		return g.Ack(), m.ack()
	}
	return g.End(n), m.end(n)
}

// TestModel plays long rows of acts, of few lines and of all, and holds all that is told against the model.
func TestModel(t *testing.T) {
	deep := 0
	for _, lines := range []int{1, 2, 3, 5, 9, 32} {
		for run := range 40 {
			s := source(1000*lines + run)
			g, m := New(), newModel()
			for at := range 200 {
				got, want := step(g, m, &s, lines)
				if got != want {
					t.Fatalf("lines %d, run %d, act %d: %v, want %v", lines, run, at, got, want)
				}
				same(t, g, m, lines, run, at)
				deep = max(deep, len(m.served))
			}
		}
	}
	if deep < 4 {
		t.Errorf("at most %d lines were served at once: the rows are too tame", deep)
	}
}

func same(t *testing.T, g *Gic, m *model, where ...int) {
	t.Helper()
	for n := -1; n <= 32; n++ {
		got, e := g.State(n)
		if want, f := m.state(n); got != want || e != f {
			t.Fatalf("%v: State(%d) = %+v, %v, want %+v, %v", where, n, got, e, want, f)
		}
	}
	line, ok := g.Next()
	if n, there := m.next(); line != n || ok != there {
		t.Fatalf("%v: Next = %d, %v, want %d, %v", where, line, ok, n, there)
	}
	if got, want := g.Running(), m.running(); got != want {
		t.Fatalf("%v: Running = %d, want %d", where, got, want)
	}
}

// TestI6MoreUrgentThanThoseServed keeps its own book of what each served line had at its acknowledgement.
func TestI6MoreUrgentThanThoseServed(t *testing.T) {
	inside := 0
	for run := range 60 {
		s := source(run)
		g := New()
		for n := range 32 {
			good(t, g.Enable(n, true), g.SetPriority(n, s.below(256)))
		}
		served := map[int]int{}
		for range 200 {
			good(t, g.Raise(s.below(32)), g.SetPriority(s.below(32), s.below(256)))
			if s.below(4) == 0 {
				n := s.below(32)
				g.End(n)
				delete(served, n)
			}
			n := g.Ack()
			if n == 1023 {
				continue
			}
			now := state(t, g, n).Priority
			for other, p := range served {
				inside++
				if now >= p {
					t.Fatalf("run %d: the line %d of the priority %d is acknowledged while %d of %d is served", run, n, now, other, p)
				}
			}
			served[n] = now
		}
	}
	if inside == 0 {
		t.Error("nothing was acknowledged while others were served")
	}
}

// TestI6RaisedIsAcknowledged ends those served, and wants each raised line that may be heard acknowledged once.
func TestI6RaisedIsAcknowledged(t *testing.T) {
	for run := range 200 {
		s := source(run + 7)
		g := New()
		want := map[int]int{}
		good(t, g.SetMask(s.below(257)))
		m := maskOf(t, g)
		for n := range 32 {
			p := s.below(256)
			good(t, g.SetPriority(n, p), g.Lower(n), g.Enable(n, s.below(4) > 0))
			if s.below(3) > 0 {
				good(t, g.Raise(n))
				if state(t, g, n).Level && p < m {
					want[n]++
				}
			}
		}
		got := map[int]int{}
		for range 100 {
			var open []int
			for range 1 + s.below(4) {
				if n := g.Ack(); n != 1023 {
					got[n]++
					open = append(open, n)
				}
			}
			for _, n := range open {
				good(t, g.End(n))
			}
		}
		for n := range 32 {
			if got[n] != want[n] {
				t.Fatalf("run %d: the line %d was acknowledged %d times, want %d", run, n, got[n], want[n])
			}
		}
	}
}

// TestI6WaitsTillHeard has a line wait behind each thing that keeps it from being heard.
func TestI6WaitsTillHeard(t *testing.T) {
	g := New()
	ready(t, g, 1, 50)
	ack(t, g, 1)
	good(t, g.SetPriority(9, 60), g.Raise(9))
	ack(t, g, 1023, "not enabled")
	good(t, g.Enable(9, true))
	ack(t, g, 1023, "60 is not below 50")
	good(t, g.End(1))
	good(t, g.SetMask(60))
	ack(t, g, 1023, "60 is not below the mask 60")
	good(t, g.SetMask(61))
	ack(t, g, 9)
	ack(t, g, 1023, "it was raised once")
	good(t, g.Raise(9))
	ack(t, g, 1023, "it is active")
	good(t, g.End(9))
	ack(t, g, 9, "raised while it was active")
}

func TestR6TwoControllers(t *testing.T) {
	g, other := busy(t), New()
	was, fresh := tell(t, g), tell(t, other)
	s := source(5)
	m := newModel()
	for range 300 {
		step(other, m, &s, 5)
		if tell(t, g) != was {
			t.Fatal("another controller's acts change this one's answers")
		}
	}
	if tell(t, New()) != fresh {
		t.Error("a new controller is not as the first one was")
	}
	ack(t, g, 3)
}

func TestR6TheSameActsTheSameAnswers(t *testing.T) {
	a, b := New(), New()
	s, r := source(77), source(77)
	for at := range 500 {
		x, _ := step(a, newModel(), &s, 9)
		y, _ := step(b, newModel(), &r, 9)
		if x != y || tell(t, a) != tell(t, b) {
			t.Fatalf("act %d: %v and %v", at, x, y)
		}
	}
}
