package iommu

import (
	"slices"
	"testing"

	"viceroy/api"
	"viceroy/ram"
)

// dice throws the same numbers in each run.
type dice struct{ x uint64 }

func (d *dice) throw(n int) int {
	d.x = d.x*6364136223846793005 + 1442695040888963407
	return int(d.x >> 33 % uint64(n))
}

func (d *dice) pick(l ...int) int { return l[d.throw(len(l))] }

// model is what the chapter says, told in another way: the memory is a row of bytes, the buffer a row of cells; without any cells nothing is ever remembered.
type model struct {
	bytes   []byte
	roots   map[int]int
	cells   []cell
	records []api.Record
	lost    int
}

type cell struct {
	full                        bool
	stream, page, frame, rights int
}

func newModel(cells int, bytes []byte) *model {
	return &model{bytes: slices.Clone(bytes), roots: map[int]int{}, cells: make([]cell, cells)}
}

// half is the table's entry at an index as a word, and false if the memory has no such frame.
func (m *model) half(frame, i int) (int, bool) {
	at := 64*frame + 2*i
	if at+1 >= len(m.bytes) {
		return 0, false
	}
	return int(m.bytes[at]) | int(m.bytes[at+1])<<8, true
}

// single reads the two levels: a table's word has its two lowest bits 01 and nothing in the next four, a leaf's 11 and nothing in the bit 5.
func (m *model) single(root, page int) (frame, rights, kind int) {
	w, ok := m.half(root, page/32)
	if !ok {
		return 0, 0, api.FaultSize
	}
	if w%64 != 1 {
		return 0, 0, api.FaultMissing
	}
	w, ok = m.half(w/64, page%32)
	if !ok {
		return 0, 0, api.FaultSize
	}
	if w%4 != 3 || w/32%2 != 0 {
		return 0, 0, api.FaultMissing
	}
	return w / 64, w / 4 % 8, api.FaultNone
}

func (m *model) find(stream, page, want int) (frame, kind int) {
	for _, c := range m.cells {
		if c.full && c.stream == stream && c.page == page && c.rights&want != 0 {
			return c.frame, 0
		}
	}
	root, ok := m.roots[stream]
	if !ok {
		return 0, api.FaultMissing
	}
	frame, rights, kind := m.single(root, page)
	if kind == 0 && rights&want == 0 {
		kind = api.FaultRights
	}
	if kind == 0 && len(m.cells) > 0 {
		m.cells[page%8] = cell{true, stream, page, frame, rights}
	}
	return frame, kind
}

func (m *model) dma(stream, addr int, write bool, b byte) (byte, api.Errno) {
	if stream < 0 || stream > 15 {
		return 0, api.ErrStream
	}
	if addr < 0 || addr > 65535 {
		return 0, api.ErrArg
	}
	want := 1
	if write {
		want = 2
	}
	frame, kind := m.find(stream, addr/64, want)
	at := 64*frame + addr%64
	if kind == 0 && at >= len(m.bytes) {
		kind = api.FaultSize
	}
	if kind != 0 {
		if len(m.records) == 8 {
			m.lost++
		} else {
			m.records = append(m.records, api.Record{Stream: stream, Page: addr / 64, Kind: kind, Write: write})
		}
		return 0, api.ErrFault
	}
	if write {
		m.bytes[at] = b
	}
	return m.bytes[at], api.OK
}

func (m *model) empty(goes func(at int, c cell) bool) int {
	n := 0
	for at, c := range m.cells {
		if c.full && goes(at, c) {
			m.cells[at] = cell{}
			n++
		}
	}
	return n
}

func (m *model) flush(stream int) int {
	return m.empty(func(_ int, c cell) bool { return c.stream == stream })
}

func (m *model) attach(stream, root int) api.Errno {
	if stream < 0 || stream > 15 {
		return api.ErrStream
	}
	if root < 0 || root > 1023 {
		return api.ErrArg
	}
	m.roots[stream] = root
	m.flush(stream)
	return api.OK
}

func (m *model) detach(stream int) api.Errno {
	if stream < 0 || stream > 15 {
		return api.ErrStream
	}
	delete(m.roots, stream)
	m.flush(stream)
	return api.OK
}

func (m *model) root(stream int) int {
	if root, ok := m.roots[stream]; ok {
		return root
	}
	return -1
}

func (m *model) evict(at int) api.Errno {
	if at < 0 || at > 7 {
		return api.ErrArg
	}
	m.empty(func(k int, _ cell) bool { return k == at })
	return api.OK
}

func (m *model) take() (api.Record, bool) {
	if len(m.records) == 0 {
		return api.Record{}, false
	}
	x := m.records[0]
	m.records = slices.Clone(m.records[1:])
	return x, true
}

// entryWord is a word for a table: mostly a right one, now and then a spoilt one.
func entryWord(d *dice, tableTo func() int) int {
	switch d.throw(8) {
	case 0:
		return 0
	case 1:
		return d.throw(1 << 16)
	case 2:
		return 1 | tableTo()<<6
	}
	return 3 | d.throw(8)<<2 | d.pick(10, 11, 12, 13, 14, 15, 16, 1023)<<6
}

// spoil writes a word of one of the tables: the frames 1 and 2 are tables of the level 0, the frames 3 and 4 of the level 1.
func spoil(t *testing.T, d *dice, r *ram.Ram, m *model) {
	frame, i := d.pick(1, 2, 3, 4, 3, 4), d.pick(0, 1, 2, 3, 8, 9, 31)
	next := func() int { return d.pick(3, 4, 3, 4, 3, 4, 20, 1023) }
	w := entryWord(d, next)
	if frame <= 2 && d.throw(6) != 0 {
		w = 1 | next()<<6
	}
	good(t, r.Store(64*frame+2*i, 2, uint32(w)))
	m.bytes[64*frame+2*i], m.bytes[64*frame+2*i+1] = byte(w), byte(w>>8)
}

func somePage(d *dice) int { return 32*d.pick(0, 0, 0, 1, 31) + d.pick(0, 1, 2, 3, 8, 9, 31, 16) }

func someStream(d *dice) int { return d.pick(0, 0, 0, 1, 1, 1, 7, 15, 16, -1) }

// play does one thing to both, and holds what they tell against each other.
func play(t *testing.T, d *dice, r *ram.Ram, m *Iommu, o *model) {
	t.Helper()
	s, page := someStream(d), somePage(d)
	switch d.throw(24) {
	case 0:
		root := d.pick(1, 2, 1, 2, 0, 19, 20, 1023, 1024, -1)
		if a, b := m.Attach(s, root), o.attach(s, root); a != b {
			t.Fatalf("Attach(%d, %d): %v; want %v", s, root, a, b)
		}
	case 1:
		if d.throw(4) == 0 {
			if a, b := m.Detach(s), o.detach(s); a != b {
				t.Fatalf("Detach(%d): %v; want %v", s, a, b)
			}
		}
	case 2:
		if a, b := m.Flush(s), o.flush(s); a != b {
			t.Fatalf("Flush(%d): %d; want %d", s, a, b)
		}
	case 3:
		if a, b := m.FlushPage(s, page), o.empty(func(_ int, c cell) bool { return c.stream == s && c.page == page }); a != b {
			t.Fatalf("FlushPage(%d, %d): %d; want %d", s, page, a, b)
		}
	case 4:
		at := d.throw(10) - 1
		if a, b := m.Evict(at), o.evict(at); a != b {
			t.Fatalf("Evict(%d): %v; want %v", at, a, b)
		}
	case 5, 6:
		x, ok := m.Take()
		if y, is := o.take(); x != y || ok != is {
			t.Fatalf("Take: %v, %v; want %v, %v", x, ok, y, is)
		}
	case 7, 8, 9, 10:
		spoil(t, d, r, o)
	default:
		addr, write, v := 64*page+d.throw(64), d.throw(2) == 0, byte(d.throw(256))
		if d.throw(30) == 0 {
			addr = d.pick(-1, 65535, 65536)
		}
		b, e := m.Dma(r, s, addr, write, v)
		if c, f := o.dma(s, addr, write, v); b != c || e != f {
			t.Fatalf("Dma(%d, %d, %v, %d): %d, %v; want %d, %v", s, addr, write, v, b, e, c, f)
		}
	}
}

func TestD2AgainstAModel(t *testing.T) {
	through, faulted := 0, 0
	for seed := range 120 {
		d := &dice{uint64(seed)}
		r, e := ram.New(20)
		good(t, e)
		m, o := New(), newModel(8, bytesOf(t, r))
		for range 40 {
			spoil(t, d, r, o)
		}
		for s := range 2 {
			good(t, m.Attach(s, 1+s), o.attach(s, 1+s))
		}
		for range 400 {
			play(t, d, r, m, o)
			if !slices.Equal(m.Records(), o.records) || m.Lost() != o.lost {
				t.Fatal(m.Records(), m.Lost(), o.records, o.lost)
			}
			for s := -1; s <= 16; s++ {
				if m.Root(s) != o.root(s) {
					t.Fatal(s, m.Root(s), o.root(s))
				}
			}
		}
		if !slices.Equal(bytesOf(t, r), o.bytes) {
			t.Fatal("the memory is another one")
		}
		faulted += o.lost + len(o.records)
		for _, c := range o.cells {
			if c.full {
				through++
			}
		}
	}
	if through == 0 || faulted == 0 {
		t.Error("the rows go through nothing:", through, faulted)
	}
}

// As long as tables stay, one that forgets now and then, one that never does, and a model that remembers nothing tell the same.
func TestD5TheBufferIsNotSeen(t *testing.T) {
	for seed := range 100 {
		d := &dice{uint64(seed) + 1000}
		r, e := ram.New(20)
		good(t, e)
		q, e := ram.New(20)
		good(t, e)
		o := newModel(0, bytesOf(t, r))
		for range 60 {
			spoil(t, d, r, o)
		}
		keeps, forgets := New(), New()
		for s := range 3 {
			good(t, o.attach(s, 1+s%2), keeps.Attach(s, 1+s%2), forgets.Attach(s, 1+s%2))
		}
		for n := range 20 {
			b, e := r.Frame(n)
			good(t, e)
			good(t, q.Lay(n, b...))
		}
		for range 500 {
			s, addr, write, v := d.throw(4), 64*somePage(d)+d.throw(64), d.throw(2) == 0, byte(d.throw(256))
			forgetSome(d, forgets)
			frame, kind := o.find(s, addr/64, 1)
			if write {
				frame, kind = o.find(s, addr/64, 2)
			}
			if kind == 0 && frame <= 4 {
				write = false // tables stay
			}
			want, wantE := o.dma(s, addr, write, v)
			for _, m := range []*Iommu{keeps, forgets} {
				mem := r
				if m == forgets {
					mem = q
				}
				if b, e := m.Dma(mem, s, addr, write, v); b != want || e != wantE {
					t.Fatalf("Dma(%d, %d, %v, %d): %d, %v; want %d, %v", s, addr, write, v, b, e, want, wantE)
				}
				if !slices.Equal(m.Records(), o.records) || m.Lost() != o.lost {
					t.Fatal(m.Records(), o.records)
				}
			}
		}
		if !slices.Equal(bytesOf(t, r), o.bytes) || !slices.Equal(bytesOf(t, q), o.bytes) {
			t.Fatal("the memory is another one")
		}
	}
}

func forgetSome(d *dice, m *Iommu) {
	switch d.throw(5) {
	case 0:
		m.Flush(d.throw(4))
	case 1:
		m.FlushPage(d.throw(4), somePage(d))
	case 2:
		m.Evict(d.throw(8))
	}
}

// A device reaches only what its stream's table gives it, with that right: at all addresses of all pages.
func TestD5OnlyWhatTheTableGives(t *testing.T) {
	r, m := world(t)
	o := newModel(0, bytesOf(t, r))
	good(t, o.attach(0, one), o.attach(5, two))
	for round := range 2 {
		for page := range 1024 {
			for _, s := range []int{0, 5, 9} {
				for _, write := range []bool{false, true} {
					addr := 64*page + (page+round)%64
					b, e := m.Dma(r, s, addr, write, byte(page))
					if c, f := o.dma(s, addr, write, byte(page)); b != c || e != f {
						t.Fatalf("round %d: Dma(%d, %d, %v): %d, %v; want %d, %v", round, s, addr, write, b, e, c, f)
					}
				}
			}
		}
	}
	if !slices.Equal(bytesOf(t, r), o.bytes) {
		t.Error("the memory is another one")
	}
}
