package cspace

import (
	"slices"
	"strconv"
	"strings"
	"testing"

	"viceroy/api"
)

// dice throws the same numbers in each run.
type dice struct{ x uint64 }

func (d *dice) throw(n int) int {
	d.x = d.x*6364136223846793005 + 1442695040888963407
	return int(d.x >> 33 % uint64(n))
}

func (d *dice) pick(l ...int) int { return l[d.throw(len(l))] }

// model is what the chapter says, told in another way: every slot that could be stands in one row, and an address is a text of its bits.
type model struct {
	radix [1024]int
	slots [1024 * 16]api.Cap
}

func (m *model) addNode(id, radix int) api.Errno {
	switch {
	case id < 0 || id > 1023 || radix < 1 || radix > 4:
		return api.ErrArg
	case m.radix[id] != 0:
		return api.ErrFull
	}
	m.radix[id] = radix
	return api.OK
}

func (m *model) dropNode(id int) api.Errno {
	if id < 0 || id > 1023 || m.radix[id] == 0 {
		return api.ErrNode
	}
	for _, c := range m.slots[16*id : 16*id+16] {
		if c != (api.Cap{}) {
			return api.ErrFull
		}
	}
	m.radix[id] = 0
	return api.OK
}

func (m *model) place(at api.Ref) (int, api.Errno) {
	if at.Node < 0 || at.Node > 1023 || m.radix[at.Node] == 0 {
		return 0, api.ErrNode
	}
	if at.Index < 0 || at.Index >= []int{0, 2, 4, 8, 16}[m.radix[at.Node]] {
		return 0, api.ErrArg
	}
	return 16*at.Node + at.Index, api.OK
}

// put is told whether the cap is right: those that are thrown are known to be, or not to be.
func (m *model) put(at api.Ref, c api.Cap, right bool) api.Errno {
	i, e := m.place(at)
	if e == api.OK && !right {
		e = api.ErrKind
	}
	if e == api.OK {
		m.slots[i] = c
	}
	return e
}

func (m *model) full() []api.Ref {
	var l []api.Ref
	for i, c := range m.slots {
		if c != (api.Cap{}) {
			l = append(l, api.Ref{Node: i / 16, Index: i % 16})
		}
	}
	return l
}

// binary is a number with so many digits of 0 and 1, the lowest ones if it has more.
func binary(n uint64, digits int) string {
	s := strings.Repeat("0", 64) + strconv.FormatUint(n, 2)
	return s[len(s)-digits:]
}

func (m *model) follow(c api.Cap, digits string) (api.Ref, int, api.Errno) {
	rest, ok := strings.CutPrefix(digits, binary(uint64(c.Guard), c.GuardBits))
	if !ok {
		return api.Ref{}, 0, api.ErrGuard
	}
	if len(rest) < c.Radix {
		return api.Ref{}, 0, api.ErrDepth
	}
	if m.radix[c.Obj] != c.Radix {
		return api.Ref{}, 0, api.ErrNode
	}
	index, _ := strconv.ParseInt(rest[:c.Radix], 2, 0)
	at := api.Ref{Node: c.Obj, Index: int(index)}
	rest = rest[c.Radix:]
	next := m.slots[16*at.Node+at.Index]
	if rest == "" || next.Kind != api.CNode {
		return at, len(rest), api.OK
	}
	return m.follow(next, rest)
}

func (m *model) resolve(root api.Cap, right bool, cptr uint32, depth int) (api.Ref, int, api.Errno) {
	switch {
	case !right || root.Kind != api.CNode:
		return api.Ref{}, 0, api.ErrLookup
	case depth < 1 || depth > 16:
		return api.Ref{}, 0, api.ErrDepth
	}
	return m.follow(root, binary(uint64(cptr), depth))
}

// anyNode is one of few, so that they meet often; seldom one that is none.
func anyNode(d *dice) int {
	if d.throw(40) == 0 {
		return d.pick(-1, 1024, 1<<40)
	}
	return d.pick(0, 1, 2, 3, 511, 1023)
}

// anyCap throws a cap, and whether it is right: most are nodes' with short guards.
func anyCap(d *dice, m *model) (api.Cap, bool) {
	switch d.throw(12) {
	case 0:
		return api.Cap{}, true
	case 1:
		return api.Cap{Kind: api.Tcb, Obj: d.throw(1024)}, true
	case 2:
		return api.Cap{Kind: api.Endpoint, Obj: d.throw(1024), Rights: api.Read, Badge: d.throw(100)}, true
	case 3:
		wrong := []api.Cap{{Kind: 12}, {Kind: api.Tcb, Badge: 1}, cnode(1, 0, 0, 0), cnode(1, 5, 0, 0), cnode(1024, 1, 0, 0), cnode(1, 1, 2, 1), cnode(1, 1, 0, 17)}
		return wrong[d.throw(len(wrong))], false
	}
	bits := d.pick(0, 0, 0, 0, 1, 1, 2, 3, 16)
	c := cnode(d.pick(0, 1, 2, 3, 511, 1023), 1+d.throw(4), d.throw(1<<bits), bits)
	if r := m.radix[c.Obj]; r != 0 && d.throw(8) > 0 {
		c.Radix = r
	}
	return c, true
}

func change(t *testing.T, s *Space, m *model, d *dice) {
	t.Helper()
	id := anyNode(d)
	switch d.throw(8) {
	case 0, 1:
		r := d.throw(6)
		answers(t, "AddNode", s.AddNode(id, r), m.addNode(id, r))
	case 2:
		answers(t, "DropNode", s.DropNode(id), m.dropNode(id))
	default:
		at := ref(id, d.throw(18)-1)
		if id >= 0 && id < 1024 && d.throw(3) > 0 {
			at.Index &= 1<<m.radix[id] - 1
		}
		c, right := anyCap(d, m)
		answers(t, "Put", s.Put(at, c), m.put(at, c, right))
	}
}

func ask(t *testing.T, s *Space, m *model, d *dice) {
	t.Helper()
	root, right := anyCap(d, m)
	cptr, depth := uint32(d.throw(1<<31))<<1|uint32(d.throw(2)), d.throw(18)
	if root.GuardBits > 0 && right && d.throw(4) > 0 {
		keep := max(depth-root.GuardBits, 0)
		cptr = cptr&(1<<keep-1) | uint32(root.Guard)<<keep
	}
	wantAt, wantLeft, wantErr := m.resolve(root, right, cptr, depth)
	if at, left, e := s.Resolve(root, cptr, depth); at != wantAt || left != wantLeft || e != wantErr {
		t.Fatalf("Resolve(%+v, %b, %d) = %v, %d, %v; want %v, %d, %v", root, cptr, depth, at, left, e, wantAt, wantLeft, wantErr)
	}
	if wantErr == api.OK && wantLeft > 0 {
		wantAt, wantErr = api.Ref{}, api.ErrDepth
	}
	if at, e := s.Slot(root, cptr, depth); at != wantAt || e != wantErr {
		t.Fatalf("Slot(%+v, %b, %d) = %v, %v; want %v, %v", root, cptr, depth, at, e, wantAt, wantErr)
	}
	var want api.Cap
	wantAt, _, wantErr = m.resolve(root, right, cptr, 16)
	if wantErr == api.OK {
		want = m.slots[16*wantAt.Node+wantAt.Index]
		if want == (api.Cap{}) {
			wantAt, wantErr = api.Ref{}, api.ErrLookup
		}
	}
	looksUp(t, s, root, cptr, want, wantAt, wantErr)
}

func agree(t *testing.T, s *Space, m *model) {
	t.Helper()
	if got := s.Full(); !slices.Equal(got, m.full()) {
		t.Fatalf("Full() = %v; want %v", got, m.full())
	}
	for _, id := range []int{0, 1, 2, 3, 511, 1023} {
		radix(t, s, id, m.radix[id])
		for i := -1; i <= 16; i++ {
			place, e := m.place(ref(id, i))
			want := api.Cap{}
			if e == api.OK {
				want = m.slots[place]
			}
			gets(t, s, ref(id, i), want, e)
		}
	}
}

func TestModelLongRows(t *testing.T) {
	for seed := range uint64(12) {
		s, m, d := New(), &model{}, &dice{x: seed}
		for i := range 3000 {
			change(t, s, m, d)
			for range 4 {
				ask(t, s, m, d)
			}
			if i%100 == 99 {
				agree(t, s, m)
			}
			if t.Failed() {
				t.Fatal("in the row", seed, "at", i)
			}
		}
	}
}

// TestModelReach tells that the rows do reach what they are for.
func TestModelReach(t *testing.T) {
	m, d := &model{}, &dice{x: 3}
	s := New()
	seen := map[api.Errno]int{}
	for range 6000 {
		change(t, s, m, d)
		root, right := anyCap(d, m)
		_, left, e := m.resolve(root, right, uint32(d.throw(1<<31)), 1+d.throw(16))
		seen[e]++
		if e == api.OK && left == 0 {
			seen[-1]++
		}
	}
	for _, e := range []api.Errno{-1, api.OK, api.ErrLookup, api.ErrGuard, api.ErrDepth, api.ErrNode} {
		if seen[e] < 100 {
			t.Error(e, "was met", seen[e], "times")
		}
	}
}

// TestModelAllAddresses goes over each address of each depth of one space that has all there is: guards, ends, rounds, nodes that are not there.
func TestModelAllAddresses(t *testing.T) {
	s, m := New(), &model{}
	for _, n := range []struct{ id, radix int }{{0, 4}, {1, 1}, {2, 2}, {1023, 3}} {
		answers(t, "AddNode", s.AddNode(n.id, n.radix), m.addNode(n.id, n.radix))
	}
	for _, x := range []struct {
		at api.Ref
		c  api.Cap
	}{
		{ref(0, 1), cnode(1, 1, 0, 0)}, {ref(0, 2), cnode(2, 2, 1, 1)}, {ref(0, 3), cnode(1023, 3, 5, 3)}, {ref(0, 4), cnode(0, 4, 0, 0)},
		{ref(0, 5), tcb}, {ref(0, 6), cnode(3, 2, 0, 0)}, {ref(0, 7), cnode(2, 3, 0, 0)}, {ref(0, 8), cnode(1, 1, 100, 11)}, {ref(0, 15), cnode(1, 1, 0, 12)},
		{ref(1, 0), cnode(1, 1, 0, 0)}, {ref(1, 1), cnode(0, 4, 0, 1)}, {ref(2, 3), cnode(1023, 3, 0, 0)}, {ref(1023, 7), cnode(1023, 3, 3, 2)},
	} {
		answers(t, "Put", s.Put(x.at, x.c), m.put(x.at, x.c, true))
	}
	root := cnode(0, 4, 0, 0)
	for depth := 1; depth <= 16; depth++ {
		for cptr := range uint32(1 << depth) {
			wantAt, wantLeft, wantErr := m.resolve(root, true, cptr, depth)
			if at, left, e := s.Resolve(root, cptr, depth); at != wantAt || left != wantLeft || e != wantErr {
				t.Fatalf("Resolve(%b, %d) = %v, %d, %v; want %v, %d, %v", cptr, depth, at, left, e, wantAt, wantLeft, wantErr)
			}
		}
	}
}
