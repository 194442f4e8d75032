package confine

import (
	"fmt"
	"math"
	"math/big"
	"testing"

	"viceroy/api"
	"viceroy/caps"
	"viceroy/kernel"
)

// model tells the rules as chapter 20 says them, slot by slot; what is the boot's is read off machines.
type model struct {
	boots   bool
	pages   []api.Mapping
	objects map[int]bool
}

func newModel(b api.Boot) *model {
	m := &model{objects: map[int]bool{}}
	// The shares do not move things: with those of a guest's virtual processor alone its frame is told.
	bare := b
	bare.Progs = nil
	for _, p := range b.Progs {
		p.Shares = nil
		bare.Progs = append(bare.Progs, p)
	}
	if kernel.Check(b) != api.OK {
		return m
	}
	m.boots = true
	for n, p := range b.Progs {
		if p.Guest {
			bare.Progs[0].Shares = append(bare.Progs[0].Shares, api.Share{Kind: api.Vcpu, N: n})
		}
	}
	k, e := kernel.New(bare)
	if e != api.OK {
		panic(e)
	}
	for n, t := range k.Threads() {
		m.objects[t], m.objects[k.Node(t)] = true, true
		m.pages = append(m.pages, k.Mappings(1+n)...)
	}
	for n := range bare.Progs[0].Shares {
		c, _ := k.Slot(api.Ref{Node: k.Node(1), Index: 1 + n})
		m.objects[c.Obj] = true
	}
	return m
}

func (m *model) check(v api.View) int {
	for n, rule := range []func(api.View) bool{m.rule1, m.rule2, m.rule3, m.rule4, m.rule5, m.rule6, m.rule7, m.rule8} {
		if !rule(v) {
			return n + 1
		}
	}
	return 0
}

func (m *model) rule1(v api.View) bool {
	for i, p := range v.Slots {
		for _, q := range v.Slots[:i] {
			if p.At == q.At {
				return false
			}
		}
		if !caps.Right(p.Cap) || p.Cap.Kind == 0 {
			return false
		}
		if i == 0 && p.Depth != 0 || p.Depth < 0 || i > 0 && p.Depth > 0 && p.Depth-1 > v.Slots[i-1].Depth {
			return false
		}
	}
	return true
}

func (m *model) rule2(v api.View) bool {
	for _, p := range v.Slots {
		if p.Cap.Kind == 2 && !(p.At.Node < p.Cap.Obj) {
			return false
		}
	}
	return true
}

func (m *model) rule3(v api.View) bool {
	for _, p := range v.Slots {
		for _, q := range v.Slots {
			a, b := p.Cap, q.Cap
			if !caps.Same(a, b) && 2 <= a.Kind && a.Kind <= 8 && 2 <= b.Kind && b.Kind <= 8 && a.Obj == b.Obj {
				return false
			}
		}
	}
	return true
}

func (m *model) rule4(v api.View) bool {
	for i, p := range v.Slots {
		if p.Depth == 0 {
			continue
		}
		parent := i - 1
		for v.Slots[parent].Depth >= p.Depth {
			parent--
		}
		if c := v.Slots[parent].Cap; !caps.Same(p.Cap, c) && c.Kind != 1 {
			return false
		}
	}
	return true
}

func (m *model) rule5(v api.View) bool {
	for i, p := range v.Slots {
		x := p.M
		if !p.Mapped {
			if x.Vmid != 0 || x.Page != 0 || x.Frame != 0 || x.Rights != 0 {
				return false
			}
			continue
		}
		if p.Cap.Kind != 6 && p.Cap.Kind != 7 || p.Cap.Obj != x.Frame {
			return false
		}
		there := 0
		if p.Cap.Kind == 6 {
			for _, y := range v.Maps {
				if x == y {
					there++
				}
			}
			for bit := range 64 {
				if x.Rights>>bit&1 == 1 && p.Cap.Rights>>bit&1 == 0 {
					return false
				}
			}
			for j, q := range v.Slots {
				if j != i && q.Cap.Kind == 6 && q.Mapped && q.M.Vmid == x.Vmid && q.M.Page == x.Page {
					return false
				}
			}
		} else {
			for _, n := range v.Tables {
				if n == p.Cap.Obj {
					there++
				}
			}
			if x.Rights != 0 || x.Page/32*32 != x.Page {
				return false
			}
		}
		if there == 0 {
			return false
		}
	}
	return true
}

func (m *model) rule6(v api.View) bool {
	for _, x := range v.Maps {
		owners := 0
		for _, p := range v.Slots {
			if p.Cap.Kind == 6 && p.Mapped && p.M == x {
				owners++
			}
		}
		for _, y := range m.pages {
			if x == y {
				owners++
			}
		}
		if owners == 0 && m.boots {
			return false
		}
	}
	return true
}

func (m *model) rule7(v api.View) bool {
	for _, x := range v.Maps {
		for _, n := range v.Tables {
			if n == x.Frame {
				return false
			}
		}
		for _, p := range v.Slots {
			switch p.Cap.Kind {
			case 2, 3, 4, 5, 8, 7:
				if p.Cap.Obj == x.Frame {
					return false
				}
			}
		}
		if m.objects[x.Frame] {
			return false
		}
		for _, g := range v.Regions {
			if leftInWhole(g, x.Frame) {
				return false
			}
		}
	}
	return true
}

// leftInWhole asks by whole numbers, which never wrap.
func leftInWhole(g api.Region, frame int) bool {
	whole := func(n int) *big.Int { return big.NewInt(int64(n)) }
	first, last, mark := whole(g.First), whole(g.First), whole(g.First)
	last.Add(last, whole(g.Frames))
	last.Sub(last, whole(1))
	mark.Add(mark, whole(g.Mark))
	f := whole(frame)
	return f.Cmp(first) >= 0 && f.Cmp(last) <= 0 && f.Cmp(mark) >= 0
}

func (m *model) rule8(v api.View) bool {
	current := v.Current == -1
	for i, t := range v.Threads {
		for _, u := range v.Threads[:i] {
			if t.Id == u.Id {
				return false
			}
		}
		runs := t.State == 0 && !t.Off
		if t.Awake != runs {
			return false
		}
		if t.Id == v.Current && t.Awake {
			current = true
		}
		on := false
		switch t.State {
		case 0:
			on = t.On == -1
		case 2, 3, 5:
			for _, p := range v.Slots {
				on = on || p.Cap.Obj == t.On && (p.Cap.Kind == 4 && t.State != 5 || p.Cap.Kind == 5 && t.State == 5)
			}
		case 4:
			on = t.On == -1
			for _, u := range v.Threads {
				on = on || u.Id == t.On
			}
		}
		if !on {
			return false
		}
	}
	return current
}

// dice throws the same numbers in each run.
type dice struct{ x uint64 }

func (d *dice) throw(n int) int {
	d.x = d.x*6364136223846793005 + 1442695040888963407
	return int(d.x >> 33 % uint64(n))
}

func (d *dice) pick(l ...int) int { return l[d.throw(len(l))] }

func (d *dice) number() int {
	switch d.throw(12) {
	case 0:
		return d.pick(math.MaxInt, math.MinInt, math.MaxInt-1, math.MinInt+1, -2, 1023, 1024, 65536)
	case 1:
		return d.throw(1100)
	case 2:
		return 32 * d.throw(33)
	}
	return d.throw(34) - 1
}

// spoil changes one part of a view, mostly a little.
func (d *dice) spoil(v *api.View) {
	any := func(n int) int {
		if n == 0 {
			return -1
		}
		return d.throw(n)
	}
	if i := any(len(v.Slots)); i >= 0 && d.throw(3) > 0 {
		d.spoilSlot(v, i)
		return
	}
	i, j, k, l := any(len(v.Threads)), any(len(v.Maps)), any(len(v.Tables)), any(len(v.Regions))
	switch n := d.throw(12); {
	case n == 0:
		v.Current = d.number()
	case n < 5 && i >= 0:
		t := &v.Threads[i]
		*[]*int{&t.Id, &t.State, &t.On, &t.On, &t.State}[d.throw(5)] = d.pick(d.throw(7), d.number())
		if d.throw(3) > 0 {
			t.Awake = t.State == 0 && !t.Off
		}
	case n == 5 && i >= 0:
		v.Threads[i].Off = !v.Threads[i].Off
	case n < 8 && j >= 0:
		m := &v.Maps[j]
		*[]*int{&m.Vmid, &m.Page, &m.Frame, &m.Rights}[d.throw(4)] = d.number()
	case n == 8 && k >= 0:
		v.Tables[k] = d.number()
	case n == 9:
		v.Tables = append(v.Tables, d.number())
	case l >= 0:
		g := &v.Regions[l]
		*[]*int{&g.First, &g.Frames, &g.Mark, &g.Mark}[d.throw(4)] = d.number()
	default:
		v.Regions = append(v.Regions, api.Region{First: d.number(), Frames: d.number(), Mark: d.number()})
	}
}

func (d *dice) spoilSlot(v *api.View, i int) {
	p, q := &v.Slots[i], &v.Slots[d.throw(len(v.Slots))]
	switch d.throw(12) {
	case 0:
		p.At, q.At = q.At, p.At
	case 1:
		p.At.Node, p.At.Index = d.number(), d.throw(16)
	case 2:
		p.Cap = q.Cap
	case 3:
		p.Cap = api.Cap{Kind: d.throw(13), Obj: d.number()}
		if p.Cap.Kind == api.CNode {
			p.Cap.Radix = d.throw(6)
		}
	case 4:
		p.Cap.Rights = d.throw(16)
	case 5, 6:
		p.Depth = d.pick(0, 1, 2, 3, p.Depth+1, p.Depth-1, d.number())
	case 7:
		p.Mapped = !p.Mapped
	case 8:
		p.Mapped, p.M = false, api.Mapping{}
	case 9:
		m := &p.M
		*[]*int{&m.Vmid, &m.Page, &m.Frame, &m.Rights}[d.throw(4)] = d.number()
	case 10:
		*p = mapped(place(p.At.Node, p.At.Index, p.Depth, api.Cap{Kind: api.Frame, Obj: d.throw(40), Rights: 7}), 1+d.throw(3), d.throw(40), d.throw(8))
		v.Maps = append(v.Maps, p.M)
	case 11:
		v.Slots = append(v.Slots, *p)
		v.Slots[len(v.Slots)-1].At.Index += 16
	}
}

// TestSpoiled holds what is told of spoiled views against the model.
func TestSpoiled(t *testing.T) {
	w := start(t, shop())
	w.steps(14 + 11)
	told := map[int]int{}
	for seed := range 60000 {
		d := &dice{uint64(seed)}
		b, v := house(), stands()
		if seed%2 == 1 {
			b, v = shop(), See(w.Kernel)
		}
		if d.throw(9) == 0 {
			b.Frames = d.pick(0, 8, 20)
		}
		for range 1 + d.throw(3) {
			d.spoil(&v)
		}
		n, want := Check(b, v), newModelOf(b).check(v)
		if n != want {
			t.Fatalf("%d: %d, not %d: %+v", seed, n, want, v)
		}
		told[n]++
	}
	for n := range 9 {
		if told[n] < 500 {
			t.Error("told too seldom:", n, told[n])
		}
	}
}

// models are the ones that were made, for making one takes machines.
var models = map[string]*model{}

func newModelOf(b api.Boot) *model {
	name := fmt.Sprint(b)
	if models[name] == nil {
		models[name] = newModel(b)
	}
	return models[name]
}
