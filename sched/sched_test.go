package sched

import (
	"math"
	"slices"
	"testing"

	"viceroy/api"
)

// farNumbers are such as no thread, priority, domain or count of ticks is.
var farNumbers = []int{math.MinInt, math.MinInt + 1, -1 << 62, -1 << 32, -1024, -64, -4, -1, 1024, 1025, 1 << 16, 1 << 32, 1<<32 + 1, 1 << 62, math.MaxInt - 1, math.MaxInt}

func turn(domain, ticks int) api.Turn { return api.Turn{Domain: domain, Ticks: ticks} }

func task(id, priority, domain, slice int, awake bool) api.Task {
	return api.Task{Id: id, Priority: priority, Domain: domain, Slice: slice, Awake: awake}
}

// made is one of a table that may be.
func made(t *testing.T, table ...api.Turn) *Sched {
	t.Helper()
	s, e := New(table...)
	if s == nil || e != api.OK {
		t.Fatalf("New(%+v): %v", table, e)
	}
	return s
}

// person is what a thread is added by.
type person struct{ id, priority, domain int }

func add(t *testing.T, s *Sched, l ...person) {
	t.Helper()
	for _, x := range l {
		answers(t, "Add", s.Add(x.id, x.priority, x.domain), api.OK)
	}
}

func wake(t *testing.T, s *Sched, ids ...int) {
	t.Helper()
	for _, id := range ids {
		answers(t, "Wake", s.Wake(id), api.OK)
	}
}

// awake is one of these threads, woken one behind the other.
func awake(t *testing.T, table []api.Turn, l ...person) *Sched {
	t.Helper()
	s := made(t, table...)
	add(t, s, l...)
	for _, x := range l {
		wake(t, s, x.id)
	}
	return s
}

func answers(t *testing.T, what string, got, want api.Errno) {
	t.Helper()
	if got != want {
		t.Errorf("%s: %v; want %v", what, got, want)
	}
}

func current(t *testing.T, s *Sched, want int) {
	t.Helper()
	if got := s.Current(); got != want {
		t.Errorf("Current() = %d; want %d", got, want)
	}
}

func domain(t *testing.T, s *Sched, want int) {
	t.Helper()
	if got := s.Domain(); got != want {
		t.Errorf("Domain() = %d; want %d", got, want)
	}
}

// settles settles, and asks who is current then.
func settles(t *testing.T, s *Sched, want int) {
	t.Helper()
	s.Settle()
	current(t, s, want)
}

func queue(t *testing.T, s *Sched, domain, priority int, want ...int) {
	t.Helper()
	if got := s.Ready(domain, priority); !slices.Equal(got, want) {
		t.Errorf("Ready(%d, %d) = %v; want %v", domain, priority, got, want)
	}
}

func thread(t *testing.T, s *Sched, want api.Task) {
	t.Helper()
	if got, e := s.Thread(want.Id); got != want || e != api.OK {
		t.Errorf("Thread(%d) = %+v, %v; want %+v", want.Id, got, e, want)
	}
}

func noThread(t *testing.T, s *Sched, id int) {
	t.Helper()
	if got, e := s.Thread(id); got != (api.Task{}) || e != api.ErrThread {
		t.Errorf("Thread(%d) = %+v, %v; want none", id, got, e)
	}
}

// state is all that can be told of one.
type state struct {
	current, domain int
	queues          [api.Domains][api.Priorities][]int
	threads         []api.Task
}

func stateOf(s *Sched) state {
	x := state{current: s.Current(), domain: s.Domain()}
	for d := range x.queues {
		for p := range x.queues[d] {
			x.queues[d][p] = s.Ready(d, p)
		}
	}
	for id := range 1024 {
		if y, e := s.Thread(id); e == api.OK {
			x.threads = append(x.threads, y)
		}
	}
	return x
}

func (x state) equal(y state) bool {
	for d := range x.queues {
		for p := range x.queues[d] {
			if !slices.Equal(x.queues[d][p], y.queues[d][p]) {
				return false
			}
		}
	}
	return x.current == y.current && x.domain == y.domain && slices.Equal(x.threads, y.threads)
}

// same asks that what is done changes nothing that can be told.
func same(t *testing.T, what string, s *Sched, do func()) {
	t.Helper()
	was := stateOf(s)
	do()
	if !was.equal(stateOf(s)) {
		t.Errorf("%s has changed something", what)
	}
}

func ticks(s *Sched, n int) {
	for range n {
		s.Tick()
	}
}

func TestExamples(t *testing.T) {
	const a, b, c, d = 1, 2, 3, 4
	s := made(t)
	add(t, s, person{a, 5, 0}, person{b, 5, 0}, person{c, 9, 0})
	wake(t, s, a, b)
	settles(t, s, a)
	answers(t, "Yield", s.Yield(), api.OK)
	settles(t, s, b)
	wake(t, s, c)
	settles(t, s, c)
	queue(t, s, 0, 5, b, a)
	answers(t, "Stop", s.Stop(c), api.OK)
	settles(t, s, b)
	for n := range 4 {
		s.Tick()
		settles(t, s, []int{b, b, b, a}[n])
	}

	s = awake(t, []api.Turn{turn(0, 2), turn(1, 3)}, person{a, 5, 0}, person{b, 5, 0}, person{d, 5, 1})
	settles(t, s, a)
	ticks(s, 2)
	settles(t, s, d)
	queue(t, s, 0, 5, a, b)
	thread(t, s, task(a, 5, 0, 2, true))
}

func TestH1Tables(t *testing.T) {
	eight := slices.Repeat([]api.Turn{turn(3, 1000)}, 8)
	for _, table := range [][]api.Turn{nil, {}, {turn(0, 1)}, {turn(3, 1000)}, {turn(1, 999), turn(1, 1)}, eight} {
		s := made(t, table...)
		current(t, s, -1)
		want := 0
		if len(table) > 0 {
			want = table[0].Domain
		}
		domain(t, s, want)
		if x := stateOf(s); x.threads != nil {
			t.Errorf("there are %+v", x.threads)
		}
	}
}

func TestH1WrongTables(t *testing.T) {
	right := turn(0, 1)
	tables := [][]api.Turn{slices.Repeat([]api.Turn{right}, 9), slices.Repeat([]api.Turn{right}, 1000), make([]api.Turn, 1)}
	wrong := []api.Turn{turn(4, 1), turn(0, 0), turn(0, 1001), turn(4, 0)}
	for _, n := range farNumbers {
		wrong = append(wrong, turn(n, 1), turn(0, n))
	}
	for _, x := range wrong {
		tables = append(tables, []api.Turn{x}, []api.Turn{right, x}, []api.Turn{x, right},
			append(slices.Repeat([]api.Turn{right}, 7), x), append(slices.Repeat([]api.Turn{right}, 8), x))
	}
	for _, table := range tables {
		if s, e := New(table...); s != nil || e != api.ErrArg {
			t.Errorf("New(%+v) = %v, %v", table, s, e)
		}
	}
}

// Each turn has all its ticks, each time: the table goes round.
func TestH1TurnsGoRound(t *testing.T) {
	for _, table := range [][]api.Turn{
		{turn(2, 1)},
		{turn(3, 2), turn(1, 1)},
		{turn(0, 3), turn(0, 2), turn(2, 1)},
		{turn(0, 1), turn(1, 2), turn(2, 3), turn(3, 4), turn(3, 5), turn(2, 6), turn(1, 7), turn(0, 8)},
		{turn(1, 1000), turn(2, 999)},
	} {
		s := made(t, table...)
		for range 3 {
			for _, x := range table {
				for range x.Ticks {
					domain(t, s, x.Domain)
					s.Tick()
				}
			}
		}
	}
}

// Without a table the domain 0 has all ticks.
func TestH1NoTable(t *testing.T) {
	s := awake(t, nil, person{7, 3, 0}, person{8, 60, 1})
	for range 2500 {
		settles(t, s, 7)
		domain(t, s, 0)
		s.Tick()
	}
	queue(t, s, 1, 60, 8)
}

func TestH2Add(t *testing.T) {
	s := made(t)
	for _, x := range []person{{0, 0, 0}, {1023, 63, 3}, {5, 63, 0}, {6, 0, 3}} {
		answers(t, "Add", s.Add(x.id, x.priority, x.domain), api.OK)
		thread(t, s, task(x.id, x.priority, x.domain, 4, false))
		queue(t, s, x.domain, x.priority)
	}
	settles(t, s, -1)
	same(t, "Add of one who is there", s, func() {
		answers(t, "Add", s.Add(5, 1, 1), api.ErrFull)
		answers(t, "Add", s.Add(5, 63, 0), api.ErrFull)
	})
}

func TestH2AddErrors(t *testing.T) {
	s := awake(t, nil, person{5, 5, 0})
	same(t, "a wrong Add", s, func() {
		for _, n := range farNumbers {
			answers(t, "Add of a number", s.Add(n, 1, 1), api.ErrArg)
			answers(t, "Add of a priority", s.Add(6, n, 1), api.ErrArg)
			answers(t, "Add of a domain", s.Add(6, 1, n), api.ErrArg)
			answers(t, "ErrArg comes first", s.Add(5, n, 1), api.ErrArg)
			answers(t, "ErrArg comes first", s.Add(5, 1, n), api.ErrArg)
		}
		answers(t, "Add", s.Add(6, 64, 0), api.ErrArg)
		answers(t, "Add", s.Add(6, 0, 4), api.ErrArg)
		answers(t, "Add", s.Add(5, 64, 0), api.ErrArg)
		answers(t, "Add", s.Add(5, 0, 4), api.ErrArg)
	})
}

func TestH2AllThatCanBe(t *testing.T) {
	s := made(t)
	for id := range 1024 {
		answers(t, "Add", s.Add(id, id%64, id/64%4), api.OK)
	}
	for id := range 1024 {
		answers(t, "Add again", s.Add(id, 0, 0), api.ErrFull)
		thread(t, s, task(id, id%64, id/64%4, 4, false))
	}
	for id := range 1024 {
		wake(t, s, 1023-id)
	}
	for p := range 64 {
		for d := range 4 {
			at := p + 64*d
			queue(t, s, d, p, at+768, at+512, at+256, at)
		}
	}
	settles(t, s, 63+768)
	for id := range 1024 {
		answers(t, "Drop", s.Drop(id), api.OK)
		noThread(t, s, id)
	}
	settles(t, s, -1)
}

func TestH2Drop(t *testing.T) {
	s := awake(t, nil, person{1, 5, 0}, person{2, 5, 0}, person{3, 5, 0}, person{4, 5, 0})
	add(t, s, person{5, 5, 0})
	settles(t, s, 1)
	ticks(s, 2)
	answers(t, "Drop of a ready one", s.Drop(3), api.OK)
	queue(t, s, 0, 5, 2, 4)
	noThread(t, s, 3)
	answers(t, "Drop of the current one", s.Drop(1), api.OK)
	current(t, s, -1)
	noThread(t, s, 1)
	answers(t, "Drop of a sleeping one", s.Drop(5), api.OK)
	noThread(t, s, 5)
	queue(t, s, 0, 5, 2, 4)
	same(t, "Drop of nobody", s, func() {
		for _, id := range append(farNumbers, 0, 1, 3, 5, 1023) {
			answers(t, "Drop", s.Drop(id), api.ErrThread)
		}
	})
	// Who comes back is a new one.
	add(t, s, person{1, 7, 1})
	thread(t, s, task(1, 7, 1, 4, false))
	settles(t, s, 2)
}

func TestH3Wake(t *testing.T) {
	s := made(t)
	add(t, s, person{1, 5, 0}, person{2, 5, 0}, person{3, 5, 0}, person{4, 6, 0}, person{5, 5, 2})
	wake(t, s, 3, 1, 4, 5, 2)
	queue(t, s, 0, 5, 3, 1, 2)
	queue(t, s, 0, 6, 4)
	queue(t, s, 2, 5, 5)
	current(t, s, -1)
	thread(t, s, task(3, 5, 0, 4, true))
	same(t, "Wake of one who is ready", s, func() { wake(t, s, 3, 1, 2, 4, 5) })
	settles(t, s, 4)
	same(t, "Wake of the current one", s, func() { wake(t, s, 4) })
	same(t, "Wake of nobody", s, func() {
		for _, id := range append(farNumbers, 0, 6, 1023) {
			answers(t, "Wake", s.Wake(id), api.ErrThread)
		}
	})
}

func TestH3Stop(t *testing.T) {
	s := awake(t, nil, person{1, 5, 0}, person{2, 5, 0}, person{3, 5, 0}, person{4, 5, 0})
	settles(t, s, 1)
	ticks(s, 3)
	answers(t, "Stop of a ready one", s.Stop(3), api.OK)
	queue(t, s, 0, 5, 2, 4)
	thread(t, s, task(3, 5, 0, 4, false))
	current(t, s, 1)
	answers(t, "Stop of the current one", s.Stop(1), api.OK)
	current(t, s, -1)
	queue(t, s, 0, 5, 2, 4)
	thread(t, s, task(1, 5, 0, 1, false))
	same(t, "Stop of a sleeping one", s, func() { answers(t, "Stop", s.Stop(1), api.OK) })
	same(t, "Stop of nobody", s, func() {
		for _, id := range append(farNumbers, 0, 5, 1023) {
			answers(t, "Stop", s.Stop(id), api.ErrThread)
		}
	})
	// Its slice is as it was.
	wake(t, s, 1)
	queue(t, s, 0, 5, 2, 4, 1)
	thread(t, s, task(1, 5, 0, 1, true))
}

func TestH3StopOfEachPlace(t *testing.T) {
	for at := range 5 {
		s := made(t)
		var want []int
		for id := range 5 {
			add(t, s, person{id, 9, 3})
			wake(t, s, id)
			if id != at {
				want = append(want, id)
			}
		}
		answers(t, "Stop", s.Stop(at), api.OK)
		queue(t, s, 3, 9, want...)
		wake(t, s, at)
		queue(t, s, 3, 9, append(want, at)...)
	}
}

func TestH4SetPriority(t *testing.T) {
	s := awake(t, nil, person{1, 5, 0}, person{2, 5, 0}, person{3, 5, 0}, person{4, 6, 0})
	add(t, s, person{5, 5, 0})
	answers(t, "SetPriority", s.SetPriority(1, 6), api.OK)
	queue(t, s, 0, 5, 2, 3)
	queue(t, s, 0, 6, 4, 1)
	thread(t, s, task(1, 6, 0, 4, true))
	answers(t, "of the same one", s.SetPriority(4, 6), api.OK)
	queue(t, s, 0, 6, 1, 4)
	answers(t, "of a sleeping one", s.SetPriority(5, 63), api.OK)
	thread(t, s, task(5, 63, 0, 4, false))
	queue(t, s, 0, 63)
	settles(t, s, 1)
	s.Tick()
	answers(t, "of the current one", s.SetPriority(1, 0), api.OK)
	current(t, s, 1)
	thread(t, s, task(1, 0, 0, 3, true))
	queue(t, s, 0, 0)
	queue(t, s, 0, 6, 4)
	// It is no longer the most urgent one, and goes to the queue of its new priority.
	settles(t, s, 4)
	queue(t, s, 0, 0, 1)
	wake(t, s, 5)
	queue(t, s, 0, 63, 5)
}

func TestH4SetDomain(t *testing.T) {
	s := awake(t, nil, person{1, 5, 0}, person{2, 5, 0}, person{3, 5, 0}, person{4, 5, 1})
	add(t, s, person{5, 5, 0})
	answers(t, "SetDomain", s.SetDomain(1, 1), api.OK)
	queue(t, s, 0, 5, 2, 3)
	queue(t, s, 1, 5, 4, 1)
	thread(t, s, task(1, 5, 1, 4, true))
	answers(t, "of the same one", s.SetDomain(4, 1), api.OK)
	queue(t, s, 1, 5, 1, 4)
	answers(t, "of a sleeping one", s.SetDomain(5, 3), api.OK)
	thread(t, s, task(5, 5, 3, 4, false))
	queue(t, s, 3, 5)
	settles(t, s, 2)
	s.Tick()
	answers(t, "of the current one", s.SetDomain(2, 1), api.OK)
	current(t, s, 2)
	thread(t, s, task(2, 5, 1, 3, true))
	queue(t, s, 1, 5, 1, 4)
	domain(t, s, 0)
	settles(t, s, 3)
	queue(t, s, 1, 5, 1, 4, 2)
	thread(t, s, task(2, 5, 1, 3, true))
}

func TestH4Errors(t *testing.T) {
	s := awake(t, nil, person{1, 5, 0}, person{2, 5, 0}, person{3, 5, 0})
	settles(t, s, 1)
	answers(t, "Stop", s.Stop(3), api.OK)
	same(t, "a wrong call", s, func() {
		for _, n := range farNumbers {
			answers(t, "SetPriority", s.SetPriority(n, 1), api.ErrThread)
			answers(t, "SetDomain", s.SetDomain(n, 1), api.ErrThread)
			answers(t, "ErrThread comes first", s.SetPriority(n, n), api.ErrThread)
			answers(t, "ErrThread comes first", s.SetDomain(n, n), api.ErrThread)
			answers(t, "ErrThread comes first", s.SetPriority(9, n), api.ErrThread)
			answers(t, "ErrThread comes first", s.SetDomain(9, n), api.ErrThread)
			for id := 1; id <= 3; id++ {
				answers(t, "SetPriority", s.SetPriority(id, n), api.ErrArg)
				answers(t, "SetDomain", s.SetDomain(id, n), api.ErrArg)
			}
		}
		for id := 1; id <= 3; id++ {
			answers(t, "SetPriority", s.SetPriority(id, 64), api.ErrArg)
			answers(t, "SetDomain", s.SetDomain(id, 4), api.ErrArg)
		}
	})
	for id := 1; id <= 3; id++ {
		answers(t, "SetPriority", s.SetPriority(id, 63), api.OK)
		answers(t, "SetDomain", s.SetDomain(id, 3), api.OK)
		answers(t, "SetPriority", s.SetPriority(id, 0), api.OK)
		answers(t, "SetDomain", s.SetDomain(id, 0), api.OK)
	}
}

func TestH5Yield(t *testing.T) {
	s := awake(t, nil, person{1, 5, 0}, person{2, 5, 0}, person{3, 5, 0})
	same(t, "Yield of nobody", s, func() { answers(t, "Yield", s.Yield(), api.ErrIdle) })
	settles(t, s, 1)
	ticks(s, 3)
	thread(t, s, task(1, 5, 0, 1, true))
	answers(t, "Yield", s.Yield(), api.OK)
	current(t, s, -1)
	queue(t, s, 0, 5, 2, 3, 1)
	thread(t, s, task(1, 5, 0, 4, true))
	same(t, "Yield again", s, func() { answers(t, "Yield", s.Yield(), api.ErrIdle) })
	settles(t, s, 2)
	// It goes where its new priority and domain say.
	answers(t, "SetPriority", s.SetPriority(2, 8), api.OK)
	answers(t, "SetDomain", s.SetDomain(2, 3), api.OK)
	answers(t, "Yield", s.Yield(), api.OK)
	queue(t, s, 3, 8, 2)
	settles(t, s, 3)
	// One alone gets it again.
	answers(t, "Stop", s.Stop(1), api.OK)
	answers(t, "Yield", s.Yield(), api.OK)
	settles(t, s, 3)
}

func TestH6Slices(t *testing.T) {
	s := awake(t, nil, person{1, 5, 0}, person{2, 5, 0})
	settles(t, s, 1)
	for left := 3; left >= 1; left-- {
		s.Tick()
		current(t, s, 1)
		thread(t, s, task(1, 5, 0, left, true))
	}
	s.Tick()
	current(t, s, -1)
	thread(t, s, task(1, 5, 0, 4, true))
	queue(t, s, 0, 5, 2, 1)
	// Nobody is current: no slice is less.
	same(t, "Tick of nobody", s, s.Tick)
}

func TestH6PresentTurnEnds(t *testing.T) {
	s := awake(t, []api.Turn{turn(0, 2), turn(1, 1)}, person{1, 5, 0}, person{2, 5, 0}, person{3, 5, 1})
	settles(t, s, 1)
	s.Tick()
	current(t, s, 1)
	s.Tick()
	current(t, s, -1)
	domain(t, s, 1)
	queue(t, s, 0, 5, 1, 2)
	thread(t, s, task(1, 5, 0, 2, true))
	settles(t, s, 3)
	s.Tick()
	queue(t, s, 1, 5, 3)
	domain(t, s, 0)
	settles(t, s, 1)
	thread(t, s, task(1, 5, 0, 2, true))
}

// The slice ends first: who yields goes to the end, though the turn ends too.
func TestH6SliceAndTurnEnd(t *testing.T) {
	s := awake(t, []api.Turn{turn(0, 4), turn(1, 1)}, person{1, 5, 0}, person{2, 5, 0})
	settles(t, s, 1)
	ticks(s, 4)
	current(t, s, -1)
	domain(t, s, 1)
	queue(t, s, 0, 5, 2, 1)
	thread(t, s, task(1, 5, 0, 4, true))
}

// A turn of the same domain leaves the current one alone.
func TestH6SameDomain(t *testing.T) {
	s := awake(t, []api.Turn{turn(0, 1), turn(0, 1), turn(1, 1)}, person{1, 5, 0}, person{2, 5, 0})
	settles(t, s, 1)
	s.Tick()
	current(t, s, 1)
	thread(t, s, task(1, 5, 0, 3, true))
	s.Tick()
	current(t, s, -1)
	queue(t, s, 0, 5, 1, 2)

	s = awake(t, []api.Turn{turn(2, 1)}, person{1, 5, 2}, person{2, 5, 2})
	settles(t, s, 1)
	for range 3 {
		s.Tick()
		current(t, s, 1)
	}
	s.Tick()
	current(t, s, -1)
	queue(t, s, 2, 5, 2, 1)
}

// What counts is the turns' domains, not the current one's.
func TestH6CurrentOfAnotherDomain(t *testing.T) {
	s := awake(t, []api.Turn{turn(0, 1), turn(0, 1), turn(1, 1)}, person{1, 5, 0}, person{2, 5, 1})
	settles(t, s, 1)
	answers(t, "SetDomain", s.SetDomain(1, 1), api.OK)
	s.Tick()
	current(t, s, 1)
	s.Tick()
	current(t, s, -1)
	queue(t, s, 1, 5, 1, 2)
	thread(t, s, task(1, 5, 1, 2, true))
	settles(t, s, 1)
}

func TestH6TicksOfNobodyCount(t *testing.T) {
	s := made(t, turn(0, 3), turn(1, 2))
	add(t, s, person{1, 5, 0})
	ticks(s, 2)
	domain(t, s, 0)
	s.Tick()
	domain(t, s, 1)
	ticks(s, 2)
	wake(t, s, 1)
	settles(t, s, 1)
	thread(t, s, task(1, 5, 0, 4, true))
}

func TestH7Nobody(t *testing.T) {
	s := made(t)
	add(t, s, person{1, 5, 0}, person{2, 5, 1})
	wake(t, s, 2)
	same(t, "Settle of nobody", s, s.Settle)
	wake(t, s, 1)
	settles(t, s, 1)
	same(t, "Settle of one alone", s, s.Settle)
}

func TestH7MostUrgentFirst(t *testing.T) {
	for p := range 64 {
		s := awake(t, nil, person{100, 63, 1}, person{p, p, 0}, person{200, 63, 2})
		if p > 0 {
			add(t, s, person{300, p - 1, 0}, person{301, 0, 0})
			wake(t, s, 300, 301)
		}
		add(t, s, person{400, p, 0})
		wake(t, s, 400)
		settles(t, s, p)
		queue(t, s, 0, p, 400)
	}
}

func TestH7Preempts(t *testing.T) {
	s := awake(t, nil, person{1, 5, 0}, person{2, 5, 0})
	add(t, s, person{3, 5, 0}, person{4, 4, 0}, person{5, 6, 0}, person{6, 63, 0})
	settles(t, s, 1)
	s.Tick()
	wake(t, s, 3, 4)
	same(t, "Settle beside equals and less urgent ones", s, s.Settle)
	wake(t, s, 5)
	settles(t, s, 5)
	queue(t, s, 0, 5, 1, 2, 3)
	thread(t, s, task(1, 5, 0, 3, true))
	wake(t, s, 6)
	settles(t, s, 6)
	queue(t, s, 0, 6, 5)
	answers(t, "Stop", s.Stop(6), api.OK)
	answers(t, "Stop", s.Stop(5), api.OK)
	settles(t, s, 1)
	thread(t, s, task(1, 5, 0, 3, true))
}

func TestH7AnotherDomainWithReadyOnes(t *testing.T) {
	s := awake(t, nil, person{1, 9, 0}, person{2, 5, 0}, person{3, 9, 1})
	settles(t, s, 1)
	s.Tick()
	answers(t, "SetDomain", s.SetDomain(1, 1), api.OK)
	// Less urgent, but of the present domain.
	settles(t, s, 2)
	queue(t, s, 1, 9, 3, 1)
	queue(t, s, 0, 5)
	thread(t, s, task(1, 9, 1, 3, true))
}

func TestH7AnotherDomainWithoutReadyOnes(t *testing.T) {
	s := awake(t, nil, person{1, 9, 0}, person{3, 9, 1})
	settles(t, s, 1)
	s.Tick()
	answers(t, "SetDomain", s.SetDomain(1, 1), api.OK)
	settles(t, s, -1)
	queue(t, s, 1, 9, 3, 1)
	thread(t, s, task(1, 9, 1, 3, true))
	same(t, "Settle again", s, s.Settle)
}

func TestH8Ready(t *testing.T) {
	s := awake(t, nil, person{1, 63, 3}, person{2, 0, 0}, person{3, 63, 3})
	queue(t, s, 3, 63, 1, 3)
	queue(t, s, 0, 0, 2)
	queue(t, s, 0, 63)
	for _, n := range append(farNumbers, 64) {
		queue(t, s, 3, n)
		queue(t, s, n, 63)
		queue(t, s, n, n)
	}
	queue(t, s, 4, 0)
	settles(t, s, 2)
	queue(t, s, 0, 0)
}

func TestH8Thread(t *testing.T) {
	s := awake(t, nil, person{0, 63, 3}, person{1023, 0, 0})
	thread(t, s, task(0, 63, 3, 4, true))
	thread(t, s, task(1023, 0, 0, 4, true))
	settles(t, s, 1023)
	thread(t, s, task(1023, 0, 0, 4, true))
	for _, id := range append(farNumbers, 1, 1022) {
		noThread(t, s, id)
	}
}

// Of equals each gets four ticks in turn, whoever else waits below or elsewhere.
func TestH9EqualsInTurn(t *testing.T) {
	for many := 1; many <= 7; many++ {
		s := awake(t, nil, person{500, 4, 0}, person{501, 60, 1})
		for id := range many {
			add(t, s, person{id, 5, 0})
			wake(t, s, id)
		}
		for n := range 4 * many * 3 {
			settles(t, s, n/4%many)
			s.Tick()
		}
	}
}

// The turns of other domains take nothing of a slice, and nobody loses its place.
func TestH9EqualsInTurnOverDomains(t *testing.T) {
	for ticks := 1; ticks <= 9; ticks++ {
		s := awake(t, []api.Turn{turn(0, ticks), turn(1, 3)}, person{0, 5, 0}, person{1, 5, 0}, person{2, 5, 0}, person{9, 5, 1})
		for n := 0; n < 60; {
			for range ticks {
				settles(t, s, n/4%3)
				s.Tick()
				n++
			}
			for range 3 {
				settles(t, s, 9)
				s.Tick()
			}
		}
	}
}

func TestR1AnyArguments(t *testing.T) {
	some := append(farNumbers, 0, 1, 3, 4, 5, 63, 64, 1000, 1023)
	for _, a := range some {
		for _, b := range some {
			for _, c := range some {
				if s, e := New(turn(a, b), turn(b, c)); e == api.OK {
					s.Add(a, b, c)
					s.Tick()
				}
			}
			s := awake(t, nil, person{1, 5, 0}, person{5, 5, 0})
			s.Settle()
			s.Add(a, 63, b)
			s.Wake(a)
			s.SetPriority(a, b)
			s.SetDomain(a, b)
			s.Ready(a, b)
			s.Tick()
			s.Settle()
			s.Stop(b)
			s.Thread(b)
			s.Drop(a)
			s.Yield()
			s.Settle()
		}
	}
}

func TestR5NothingIsShared(t *testing.T) {
	table := []api.Turn{turn(0, 1), turn(1, 1)}
	s, other := made(t, table...), made(t, table...)
	table[0], table[1] = turn(3, 7), turn(2, 0)
	domain(t, s, 0)
	s.Tick()
	domain(t, s, 1)
	s.Tick()
	domain(t, s, 0)
	add(t, s, person{1, 5, 0}, person{2, 5, 0}, person{3, 5, 0})
	wake(t, s, 1, 2)
	l := s.Ready(0, 5)
	l[0] = 9
	queue(t, s, 0, 5, 1, 2)
	l = append(l[:1], 7)
	queue(t, s, 0, 5, 1, 2)
	wake(t, s, 3)
	settles(t, s, 1)
	answers(t, "Stop", s.Stop(2), api.OK)
	if !slices.Equal(l, []int{9, 7}) {
		t.Errorf("the list became %v", l)
	}
	x, _ := s.Thread(3)
	x.Priority = 1
	thread(t, s, task(3, 5, 0, 4, true))
	current(t, other, -1)
	noThread(t, other, 1)
	domain(t, other, 0)
	if table[0] != turn(3, 7) || table[1] != turn(2, 0) {
		t.Errorf("the table became %+v", table)
	}
}
