package sched

import (
	"cmp"
	"slices"
	"testing"

	"viceroy/api"
)

// dice throws the same numbers in each run.
type dice struct{ x uint64 }

func (d *dice) throw(n int) int {
	d.x = d.x*6364136223846793005 + 1442695040888963407
	return int(d.x >> 33 % uint64(n))
}

func (d *dice) pick(l ...int) int { return l[d.throw(len(l))] }

// runner is a thread of the model. It knows no queue: its rank tells who of two stands ahead.
type runner struct {
	task api.Task
	rank int
}

// model is what the chapter says, told in another way: a list of threads with ranks, and the domain of each tick of a round.
type model struct {
	all         []runner
	current     int
	first, last int // the ranks given last, ahead of all and behind all
	round       []api.Turn
	begins      []int // at which ticks of a round a turn ends and the next one begins
	tick        int
}

func newModel(table ...api.Turn) *model {
	if len(table) == 0 {
		table = []api.Turn{{Ticks: 1000}}
	}
	m := &model{current: -1}
	for _, x := range table {
		m.begins = append(m.begins, len(m.round))
		for range x.Ticks {
			m.round = append(m.round, x)
		}
	}
	return m
}

func (m *model) domain() int { return m.round[m.tick].Domain }

func (m *model) find(id int) *runner {
	for i := range m.all {
		if m.all[i].task.Id == id {
			return &m.all[i]
		}
	}
	return nil
}

func (m *model) behind(x *runner) {
	m.last++
	x.rank = m.last
}

func (m *model) ahead(x *runner) {
	m.first--
	x.rank = m.first
}

func (m *model) queue(domain, priority int) []int {
	var l []runner
	for _, x := range m.all {
		if x.task.Awake && x.task.Id != m.current && x.task.Domain == domain && x.task.Priority == priority {
			l = append(l, x)
		}
	}
	slices.SortFunc(l, func(a, b runner) int { return cmp.Compare(a.rank, b.rank) })
	var ids []int
	for _, x := range l {
		ids = append(ids, x.task.Id)
	}
	return ids
}

func (m *model) add(id, priority, domain int) api.Errno {
	switch {
	case id < 0 || id > 1023 || priority < 0 || priority > 63 || domain < 0 || domain > 3:
		return api.ErrArg
	case m.find(id) != nil:
		return api.ErrFull
	}
	m.all = append(m.all, runner{task: task(id, priority, domain, 4, false)})
	return api.OK
}

func (m *model) drop(id int) api.Errno {
	e := m.stop(id)
	m.all = slices.DeleteFunc(m.all, func(x runner) bool { return x.task.Id == id })
	return e
}

func (m *model) wake(id int) api.Errno {
	x := m.find(id)
	if x == nil {
		return api.ErrThread
	}
	if !x.task.Awake {
		x.task.Awake = true
		m.behind(x)
	}
	return api.OK
}

func (m *model) stop(id int) api.Errno {
	x := m.find(id)
	if x == nil {
		return api.ErrThread
	}
	x.task.Awake = false
	if m.current == id {
		m.current = -1
	}
	return api.OK
}

func (m *model) set(id, n, most int, field func(*api.Task) *int) api.Errno {
	x := m.find(id)
	if x == nil {
		return api.ErrThread
	}
	if n < 0 || n > most {
		return api.ErrArg
	}
	*field(&x.task) = n
	m.behind(x)
	return api.OK
}

func (m *model) setPriority(id, n int) api.Errno {
	return m.set(id, n, 63, func(x *api.Task) *int { return &x.Priority })
}

func (m *model) setDomain(id, n int) api.Errno {
	return m.set(id, n, 3, func(x *api.Task) *int { return &x.Domain })
}

func (m *model) yield() api.Errno {
	x := m.find(m.current)
	if x == nil {
		return api.ErrIdle
	}
	x.task.Slice = 4
	m.behind(x)
	m.current = -1
	return api.OK
}

func (m *model) tock() {
	if x := m.find(m.current); x != nil {
		x.task.Slice--
		if x.task.Slice == 0 {
			m.yield()
		}
	}
	was := m.domain()
	m.tick = (m.tick + 1) % len(m.round)
	x := m.find(m.current)
	if x != nil && slices.Contains(m.begins, m.tick) && m.domain() != was {
		m.ahead(x)
		m.current = -1
	}
}

// settle goes by the four cases, as they are written.
func (m *model) settle() {
	h := -1
	for p := range 64 {
		if l := m.queue(m.domain(), p); l != nil {
			h = l[0]
		}
	}
	c := m.find(m.current)
	strange := c != nil && c.task.Domain != m.domain()
	switch {
	case h < 0 && strange:
		m.behind(c)
		m.current = -1
	case h < 0:
	case c == nil:
		m.current = h
	case strange:
		m.behind(c)
		m.current = h
	case m.find(h).task.Priority > c.task.Priority:
		m.ahead(c)
		m.current = h
	}
}

func (m *model) state() state {
	x := state{current: m.current, domain: m.domain()}
	for _, y := range m.all {
		x.threads = append(x.threads, y.task)
		if y.task.Awake {
			d, p := y.task.Domain, y.task.Priority
			x.queues[d][p] = m.queue(d, p)
		}
	}
	slices.SortFunc(x.threads, func(a, b api.Task) int { return cmp.Compare(a.Id, b.Id) })
	return x
}

// call is one of the calls that change something, by its number, with its arguments.
type call struct{ what, id, n, domain int }

const calls = 9

// both does it to the one and to the other.
func (c call) both(s *Sched, m *model) (got, want api.Errno) {
	switch c.what {
	case 0:
		return s.Add(c.id, c.n, c.domain), m.add(c.id, c.n, c.domain)
	case 1:
		return s.Drop(c.id), m.drop(c.id)
	case 2:
		return s.Wake(c.id), m.wake(c.id)
	case 3:
		return s.Stop(c.id), m.stop(c.id)
	case 4:
		return s.SetPriority(c.id, c.n), m.setPriority(c.id, c.n)
	case 5:
		return s.SetDomain(c.id, c.domain), m.setDomain(c.id, c.domain)
	case 6:
		return s.Yield(), m.yield()
	case 7:
		s.Tick()
		m.tock()
	default:
		s.Settle()
		m.settle()
	}
	return api.OK, api.OK
}

// agree asks that both tell the same, and, where it has just settled, what follows of that.
func agree(t *testing.T, s *Sched, m *model, row []call) {
	t.Helper()
	x := stateOf(s)
	if y := m.state(); !x.equal(y) {
		t.Fatalf("behind %v:\n%+v\nwant\n%+v", row, x, y)
	}
	if row[len(row)-1].what == calls-1 {
		settled(t, x)
	}
}

// settled asks H9 of what can be told.
func settled(t *testing.T, x state) {
	t.Helper()
	least := -1
	for _, y := range x.threads {
		if y.Id == x.current {
			least = y.Priority
			if y.Domain != x.domain || !y.Awake {
				t.Fatalf("current is %+v, in the domain %d", y, x.domain)
			}
		}
	}
	for p := least + 1; p < 64; p++ {
		if l := x.queues[x.domain][p]; len(l) > 0 {
			t.Fatalf("%d is current, and %v are ready, of the priority %d", x.current, l, p)
		}
	}
}

// once asks of all threads that each who is awake stands at one place alone.
func once(t *testing.T, x state) {
	t.Helper()
	places := map[int]int{}
	if x.current >= 0 {
		places[x.current]++
	}
	for d := range x.queues {
		for p := range x.queues[d] {
			for _, id := range x.queues[d][p] {
				places[id]++
			}
		}
	}
	for _, y := range x.threads {
		want := 0
		if y.Awake {
			want = 1
		}
		if places[y.Id] != want || y.Slice < 1 || y.Slice > 4 {
			t.Fatalf("%+v stands at %d places", y, places[y.Id])
		}
		delete(places, y.Id)
	}
	if len(places) > 0 {
		t.Fatalf("%v are no threads", places)
	}
}

func anyTable(d *dice) []api.Turn {
	var table []api.Turn
	for range d.throw(9) {
		table = append(table, turn(d.throw(4), 1+d.throw(d.pick(1, 3, 9))))
	}
	return table
}

func TestRowsOfCalls(t *testing.T) {
	d := dice{x: 15}
	for range 250 {
		table := anyTable(&d)
		s, m := made(t, table...), newModel(table...)
		ids, priorities, domains := 1+d.throw(12), 1+d.throw(4), 1+d.throw(4)
		var row []call
		for range 120 {
			c := call{what: d.pick(0, 0, 1, 2, 2, 2, 3, 4, 5, 6, 7, 7, 7, 8, 8, 8), id: d.throw(ids), n: d.throw(priorities), domain: d.throw(domains)}
			if d.throw(12) == 0 {
				c.n, c.domain = d.pick(-1, 63, 64, c.n), d.pick(-1, 3, 4, c.domain)
			}
			row = append(row, c)
			if got, want := c.both(s, m); got != want {
				t.Fatalf("behind %v: %v; want %v", row, got, want)
			}
			agree(t, s, m, row)
		}
		once(t, stateOf(s))
	}
}

// Each row of four calls, of three threads of whom each begins in another way.
func TestAllShortRows(t *testing.T) {
	var all []call
	for id := 1; id <= 2; id++ {
		all = append(all, call{what: 2, id: id}, call{what: 3, id: id},
			call{what: 4, id: id, n: 4}, call{what: 4, id: id, n: 5}, call{what: 4, id: id, n: 6},
			call{what: 5, id: id}, call{what: 5, id: id, domain: 1})
	}
	all = append(all, call{what: 2, id: 3}, call{what: 6}, call{what: 7}, call{what: 8})
	before := []call{{what: 0, id: 1, n: 5}, {what: 0, id: 2, n: 5}, {what: 0, id: 3, n: 5}, {what: 2, id: 1}, {what: 2, id: 2}, {what: 8}}
	table := []api.Turn{turn(0, 2), turn(1, 1)}
	const long = 4
	many := 1
	for range long {
		many *= len(all)
	}
	for number := range many {
		s, m := made(t, table...), newModel(table...)
		row := slices.Clone(before)
		for n := number; len(row) < len(before)+long; n /= len(all) {
			row = append(row, all[n%len(all)])
		}
		for _, c := range row {
			if got, want := c.both(s, m); got != want {
				t.Fatalf("%v: %v; want %v", row, got, want)
			}
		}
		if x, y := brief(s), briefModel(m); x != y {
			t.Fatalf("behind %v: %+v; want %+v", row, x, y)
		}
	}
}

// small is what can be told of the threads 1 to 3 in the domains 0 and 1, of the priorities 4 to 6, as a value.
type small struct {
	current, domain int
	queues          [2][3][3]int
	threads         [4]api.Task
}

func brief(s *Sched) small {
	x := small{current: s.Current(), domain: s.Domain()}
	for d := range x.queues {
		for p := range x.queues[d] {
			copy(x.queues[d][p][:], s.Ready(d, p+4))
		}
	}
	for id := range x.threads {
		x.threads[id], _ = s.Thread(id)
	}
	return x
}

func briefModel(m *model) small {
	x := small{current: m.current, domain: m.domain()}
	for d := range x.queues {
		for p := range x.queues[d] {
			copy(x.queues[d][p][:], m.queue(d, p+4))
		}
	}
	for id := range x.threads {
		if y := m.find(id); y != nil {
			x.threads[id] = y.task
		}
	}
	return x
}

// R6: the same calls tell the same.
func TestR6SameAgain(t *testing.T) {
	d := dice{x: 6}
	for range 30 {
		table := anyTable(&d)
		one, two := made(t, table...), made(t, table...)
		for range 200 {
			c := call{what: d.pick(0, 1, 2, 2, 3, 4, 5, 6, 7, 7, 8, 8), id: d.throw(20), n: d.throw(3), domain: d.throw(3)}
			a, _ := c.both(one, newModel())
			b, _ := c.both(two, newModel())
			if a != b {
				t.Fatalf("%+v: %v and %v", c, a, b)
			}
		}
		if !stateOf(one).equal(stateOf(two)) {
			t.Fatal("the same calls left something else")
		}
	}
}
