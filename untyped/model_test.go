package untyped

import (
	"slices"
	"testing"

	"viceroy/api"
	"viceroy/ram"
)

// dice throws the same numbers in each run.
type dice struct{ x uint64 }

func (d *dice) throw(n int) int {
	d.x = d.x*6364136223846793005 + 1442695040888963407
	return int(d.x >> 33 % uint64(n))
}

func (d *dice) pick(l ...int) int { return l[d.throw(len(l))] }

// right is asked of small numbers alone.
func right(x api.Region) bool {
	return x.First >= 0 && x.Frames > 0 && x.First+x.Frames <= 1024 && x.Mark >= 0 && x.Mark <= x.Frames
}

// model is what the chapter says, told in another way: a place for each region that could be, and a flag for each frame that was cleared.
type model struct {
	there   [1024]bool
	all     [1024]api.Region
	cleared [1024]bool
}

func (m *model) find(first int) *api.Region {
	if first < 0 || first > 1023 || !m.there[first] {
		return nil
	}
	return &m.all[first]
}

func (m *model) add(x api.Region) api.Errno {
	if !right(x) {
		return api.ErrArg
	}
	if m.find(x.First) != nil {
		return api.ErrFull
	}
	m.there[x.First], m.all[x.First] = true, x
	return api.OK
}

func (m *model) drop(first int) api.Errno {
	if m.find(first) == nil {
		return api.ErrEmpty
	}
	m.there[first] = false
	return api.OK
}

func (m *model) regions() []api.Region {
	var l []api.Region
	for first, ok := range m.there {
		if ok {
			l = append(l, m.all[first])
		}
	}
	return l
}

// wrong is a size's error, by the lists that the chapter writes out.
func wrong(kind, frames int) api.Errno {
	right := map[int][]int{1: {1, 2, 4, 8, 16, 32, 64, 128, 256, 512}, 2: {1}, 3: {1}, 4: {1}, 5: {1}, 6: {1}, 7: {1}, 8: {1}}[kind]
	switch {
	case right == nil:
		return api.ErrKind
	case !slices.Contains(right, frames):
		return api.ErrRoom
	}
	return api.OK
}

// carve goes frame by frame, from the first that is not given on.
func (m *model) carve(a asked) (int, api.Errno) {
	x := m.find(a.first)
	if x == nil {
		return 0, api.ErrEmpty
	}
	if e := wrong(a.kind, a.frames); e != api.OK {
		return 0, e
	}
	if a.count < 1 || a.count > 8 {
		return 0, api.ErrArg
	}
	if x.Device && a.kind != api.Untyped && a.kind != api.Frame {
		return 0, api.ErrKind
	}
	at := x.First + x.Mark
	for at%a.frames > 0 {
		at++
	}
	mark := at - x.First
	for range a.count {
		mark += a.frames
	}
	if mark > x.Frames {
		return 0, api.ErrRoom
	}
	x.Mark = mark
	return at, api.OK
}

// reset tells how many units are taken, of at most so many.
func (m *model) reset(first, most int) (int, api.Errno) {
	x := m.find(first)
	if x == nil {
		return 0, api.ErrEmpty
	}
	taken := 0
	for ; x.Mark > 0 && taken < most; taken++ {
		x.Mark--
		if !x.Device {
			m.cleared[x.First+x.Mark] = true
		}
	}
	if x.Mark > 0 {
		return taken, api.ErrAgain
	}
	return taken, api.OK
}

// both is a pool with its model, and the memory that it clears.
type both struct {
	t      *testing.T
	d      dice
	p      *Pool
	m      *model
	r      *ram.Ram
	frames int
	done   map[string]int
}

// told counts which answers came, so that a row that never meets one is seen.
func (b *both) told(call string, got, want api.Errno) {
	b.t.Helper()
	b.done[call+" "+want.Error()]++
	if got != want {
		b.t.Fatalf("%s: %v; want %v", call, got, want)
	}
}

func (b *both) first() int { return b.d.pick(0, 3, 8, 8, 16, 24, 64, 100, 512, 1000, 1023, -1, 1024) }

func (b *both) add() {
	x := api.Region{First: b.first(), Frames: b.d.pick(1, 5, 8, 24, 64, 512, 900, 1024, 0), Device: b.d.throw(4) == 0}
	x.Mark = b.d.pick(0, 0, 0, 1, x.Frames, x.Frames+1, -1)
	b.told("Add", b.p.Add(x), b.m.add(x))
}

func (b *both) drop() {
	first := b.first()
	b.told("Drop", b.p.Drop(first), b.m.drop(first))
}

func (b *both) carve() {
	a := asked{b.first(), b.d.pick(1, 1, 1, 1, 2, 3, 4, 5, 6, 6, 7, 8, 0, 9), b.d.pick(1, 1, 1, 1, 2, 4, 8, 16, 64, 512, 3, 1024), b.d.pick(1, 1, 2, 3, 8, 0, 9)}
	at, e := b.p.Room(a.first, a.kind, a.frames, a.count)
	want, err := b.m.carve(a)
	b.told("Room", e, err)
	got, e := b.p.Carve(a.first, a.kind, a.frames, a.count)
	b.told("Carve", e, err)
	if at != want || got != want {
		b.t.Fatalf("Room and Carve(%+v) = %d, %d; want %d", a, at, got, want)
	}
}

func (b *both) reset() {
	first, units := b.first(), b.d.pick(-1, 0, 1, 3, 6, 6, 100)
	if b.d.throw(8) == 0 {
		_, want := b.m.reset(first, 1024)
		b.told("Reset", b.p.Reset(b.r, first, nil), want)
		return
	}
	left := units
	taken, want := b.m.reset(first, units)
	b.told("Reset", b.p.Reset(b.r, first, &left), want)
	if left != units-taken {
		b.t.Fatalf("Reset(%d) with %d units leaves %d; want %d", first, units, left, units-taken)
	}
}

// same holds all regions, and every so often all frames, against the model, and writes the frames again.
func (b *both) same(memory bool) {
	b.t.Helper()
	want := b.m.regions()
	regions(b.t, b.p, want...)
	for _, x := range want {
		gets(b.t, b.p, x.First, x, api.OK)
	}
	if !memory {
		return
	}
	for n := range b.frames {
		if w, _ := b.r.Load(64*n+n%64, 1); (w == 0) != b.m.cleared[n] {
			b.t.Fatalf("the frame %d: %d; cleared %v", n, w, b.m.cleared[n])
		}
	}
	b.m.cleared = [1024]bool{}
	b.r = written(b.t, b.frames)
}

func TestLongRows(t *testing.T) {
	done := map[string]int{}
	for _, frames := range []int{1, 20, 600, 1024} {
		b := &both{t: t, d: dice{x: uint64(frames)}, p: New(), m: &model{}, r: written(t, frames), frames: frames, done: done}
		for n := range 12000 {
			[]func(){b.add, b.add, b.drop, b.carve, b.carve, b.carve, b.carve, b.reset, b.reset}[b.d.throw(9)]()
			b.same(n%50 == 0)
			if t.Failed() {
				t.Fatalf("behind %d calls with %d frames", n, frames)
			}
		}
	}
	for _, x := range []struct {
		call string
		e    []api.Errno
	}{
		{"Add", []api.Errno{api.OK, api.ErrArg, api.ErrFull}},
		{"Drop", []api.Errno{api.OK, api.ErrEmpty}},
		{"Carve", []api.Errno{api.OK, api.ErrEmpty, api.ErrKind, api.ErrRoom, api.ErrArg}},
		{"Reset", []api.Errno{api.OK, api.ErrEmpty, api.ErrAgain}},
	} {
		for _, e := range x.e {
			if done[x.call+" "+e.Error()] < 100 {
				t.Errorf("%s with %v came %d times", x.call, e, done[x.call+" "+e.Error()])
			}
		}
	}
}

// Each region of a few frames at each place, with each call of Carve and one behind it.
func TestEverySmallRegion(t *testing.T) {
	for first := range 9 {
		for frames := 1; frames <= 9; frames++ {
			for mark := range frames + 1 {
				for k := range 5 {
					for count := 1; count <= 8; count++ {
						x := region(first, frames, mark)
						p, m := New(), &model{}
						p.Add(x)
						m.add(x)
						for _, a := range []asked{{first, api.Untyped, 1 << k, count}, {first, api.Untyped, 2, 1}, {first, api.Tcb, 1, 1}} {
							want, err := m.carve(a)
							if at, e := p.Carve(a.first, a.kind, a.frames, a.count); at != want || e != err {
								t.Fatalf("%+v: Carve(%+v) = %d, %v; want %d, %v", x, a, at, e, want, err)
							}
						}
						gets(t, p, first, m.all[first], api.OK)
					}
				}
			}
		}
	}
}
