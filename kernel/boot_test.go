package kernel

import (
	"math"
	"testing"

	"viceroy/api"
)

func TestDescriptorsThatMayNotBe(t *testing.T) {
	far := []int{-1, math.MinInt, math.MaxInt}
	sets := map[string]struct {
		set      func(b *api.Boot, n int)
		may, not []int
	}{
		"frames":    {func(b *api.Boot, n int) { b.Frames = n }, []int{28, 29, 512, 1024}, []int{0, 7, 8, 27, 1025}},
		"lrs":       {func(b *api.Boot, n int) { b.Lrs = n }, []int{1, 16}, []int{0, 17}},
		"endpoints": {func(b *api.Boot, n int) { b.Endpoints = n }, []int{0, 1, 16}, []int{17}},
		"notes":     {func(b *api.Boot, n int) { b.Notes = n }, []int{0, 1, 16}, []int{17}},
		"piece":     {func(b *api.Boot, n int) { b.Frames, b.Pieces = 1024, []int{1, n} }, []int{1, 2, 4, 8, 16, 32, 64, 128, 256, 512}, []int{0, 3, 5, 511, 513, 1024, 1 << 40}},
		"priority":  {func(b *api.Boot, n int) { b.Progs[1].Priority = n }, []int{0, 63}, []int{64}},
		"domain":    {func(b *api.Boot, n int) { b.Progs[1].Domain = n }, []int{0, 3}, []int{4}},
		"handler":   {func(b *api.Boot, n int) { b.Progs[1].Handler = n }, []int{0, 1, 65535}, []int{65536}},
		"data":      {func(b *api.Boot, n int) { b.Frames, b.Progs[1].Data = 64, n }, []int{0, 1, 4}, []int{5}},
		"turn":      {func(b *api.Boot, n int) { b.Table = []api.Turn{{}, {Domain: 3, Ticks: n}}; b.Table[0].Ticks = 1 }, []int{1, 1000}, []int{0, 1001}},
		"turn's":    {func(b *api.Boot, n int) { b.Table = []api.Turn{{Domain: n, Ticks: 1}} }, []int{0, 3}, []int{4}},
	}
	for name, x := range sets {
		for _, n := range x.may {
			b := basic()
			x.set(&b, n)
			if k, e := New(b); k == nil || e != api.OK || Check(b) != api.OK {
				t.Error(name, n, e)
			}
		}
		for _, n := range append(x.not, far...) {
			b := basic()
			x.set(&b, n)
			if k, e := New(b); k != nil || e != api.ErrBoot || Check(b) != api.ErrBoot {
				t.Error(name, n, e)
			}
		}
	}
}

// basic is two programs, of which the second one is a guest: their things are 1 to 11, the others 12, 13, and 16 to 27.
func basic() api.Boot {
	return api.Boot{Frames: 64, Lrs: 1, Endpoints: 1, Notes: 1, Pieces: []int{8, 4}, Progs: []api.Prog{{}, {Guest: true}}}
}

func TestDescriptorLists(t *testing.T) {
	lists := map[string]struct {
		set func(b *api.Boot, n int)
		may []int
		not []int
	}{
		"progs":  {func(b *api.Boot, n int) { b.Progs = make([]api.Prog, n) }, []int{1, 8}, []int{0, 9, 100}},
		"pieces": {func(b *api.Boot, n int) { b.Pieces = make([]int, n); fill(b.Pieces, 1) }, []int{0, 1, 8}, []int{9}},
		"code":   {func(b *api.Boot, n int) { b.Progs[1].Code = make([]uint32, n) }, []int{0, 16}, []int{17}},
		"turns":  {func(b *api.Boot, n int) { b.Table = make([]api.Turn, n); fill(b.Table, api.Turn{Ticks: 1}) }, []int{0, 8}, []int{9}},
		"shares": {func(b *api.Boot, n int) {
			b.Progs[1].Shares = make([]api.Share, n)
			fill(b.Progs[1].Shares, api.Share{Kind: api.Endpoint})
		}, []int{0, 15}, []int{16}},
	}
	for name, x := range lists {
		for i, n := range append(x.may, x.not...) {
			b := basic()
			x.set(&b, n)
			_, e := New(b)
			wanted := api.OK
			if i >= len(x.may) {
				wanted = api.ErrBoot
			}
			if e != wanted || Check(b) != wanted {
				t.Error(name, n, e)
			}
		}
	}
	if Check(api.Boot{}) != api.ErrBoot {
		t.Error("nothing may be")
	}
}

func fill[T any](l []T, x T) {
	for i := range l {
		l[i] = x
	}
}

// TestFit asks the first count of frames into which all things go.
func TestFit(t *testing.T) {
	for _, x := range []struct {
		b     api.Boot
		least int
	}{
		{api.Boot{Progs: []api.Prog{{Data: 2}}}, 8},
		{api.Boot{Progs: []api.Prog{{Data: 2}}, Endpoints: 3}, 11},
		{api.Boot{Progs: []api.Prog{{Data: 2, Guest: true}}, Notes: 16}, 25},
		{api.Boot{Progs: []api.Prog{{Data: 2}}, Pieces: []int{8}}, 16},
		{api.Boot{Progs: []api.Prog{{Data: 3}}, Pieces: []int{8}}, 24},
		{api.Boot{Progs: []api.Prog{{Data: 2}}, Pieces: []int{1, 4, 1, 2, 2}}, 22},
		{api.Boot{Progs: []api.Prog{{}}, Pieces: []int{512, 1}}, 1025},
		{api.Boot{Progs: []api.Prog{{}}, Pieces: []int{512}}, 1024},
		{api.Boot{Progs: make([]api.Prog, 8)}, 41},
	} {
		x.b.Lrs = 1
		for frames := 8; frames <= 1024; frames++ {
			x.b.Frames = frames
			if e := Check(x.b); (e == api.OK) != (frames >= x.least) {
				t.Fatal(x.least, frames, e)
			}
		}
	}
}

func share(x [4]int) api.Share { return api.Share{Kind: x[0], N: x[1], Rights: x[2], Badge: x[3]} }

func TestSharesThatMayBe(t *testing.T) {
	// Two endpoints, three notifications, data of 1 and 2 frames, two pieces; the program 1 is a guest.
	base := func() api.Boot {
		return api.Boot{Frames: 64, Lrs: 1, Endpoints: 2, Notes: 3, Pieces: []int{4, 4}, Progs: []api.Prog{{Data: 1}, {Data: 2, Guest: true}, {}}}
	}
	const badges = 1 << 20
	for _, x := range []struct {
		prog     int
		may, not [][4]int
	}{
		{1, [][4]int{{4, 0, 0, 0}, {4, 1, 11, badges - 1}, {4, 1, 8, 0}}, [][4]int{{4, 2, 0, 0}, {4, -1, 0, 0}, {4, 0, 4, 0}, {4, 0, 16, 0}, {4, 0, -1, 0}, {4, 0, 0, badges}, {4, 0, 0, -1}}},
		{0, [][4]int{{5, 0, 0, 0}, {5, 2, 3, badges - 1}}, [][4]int{{5, 3, 0, 0}, {5, -1, 0, 0}, {5, 0, 4, 0}, {5, 0, 8, 0}, {5, 0, 0, badges}, {5, 0, 0, -1}}},
		{2, [][4]int{{6, 0, 0, 0}, {6, 2, 7, 0}}, [][4]int{{6, 3, 0, 0}, {6, -1, 0, 0}, {6, 0, 8, 0}, {6, 0, 0, 1}}},
		{0, [][4]int{{7, 0, 0, 0}, {7, 2, 0, 0}}, [][4]int{{7, 3, 0, 0}, {7, -1, 0, 0}, {7, 0, 1, 0}, {7, 0, 0, 1}}},
		{0, [][4]int{{3, 0, 0, 0}, {3, 2, 0, 0}}, [][4]int{{3, 3, 0, 0}, {3, -1, 0, 0}, {3, 0, 1, 0}, {3, 0, 0, 1}}},
		{0, [][4]int{{2, 1, 0, 0}, {2, 2, 0, 0}}, [][4]int{{2, 0, 0, 0}, {2, 3, 0, 0}, {2, -1, 0, 0}, {2, 1, 1, 0}, {2, 1, 0, 1}}},
		{1, [][4]int{{2, 2, 0, 0}}, [][4]int{{2, 0, 0, 0}, {2, 1, 0, 0}}},
		{2, nil, [][4]int{{2, 0, 0, 0}, {2, 1, 0, 0}, {2, 2, 0, 0}, {2, 3, 0, 0}}},
		{0, [][4]int{{8, 1, 0, 0}}, [][4]int{{8, 0, 0, 0}, {8, 2, 0, 0}, {8, 3, 0, 0}, {8, -1, 0, 0}, {8, 1, 1, 0}, {8, 1, 0, 1}}},
		{0, [][4]int{{1, 0, 0, 0}, {1, 1, 0, 0}}, [][4]int{{1, 2, 0, 0}, {1, -1, 0, 0}, {1, 0, 1, 0}, {1, 0, 0, 1}}},
		{0, [][4]int{{9, 0, 0, 0}, {9, 15, 0, 0}}, [][4]int{{9, 16, 0, 0}, {9, -1, 0, 0}, {9, 0, 1, 0}, {9, 0, 0, 1}}},
		{0, [][4]int{{10, 0, 0, 0}, {10, 15, 0, 0}}, [][4]int{{10, 16, 0, 0}, {10, 31, 0, 0}, {10, -1, 0, 0}, {10, 0, 1, 0}, {10, 0, 0, 1}}},
		{0, nil, [][4]int{{0, 0, 0, 0}, {11, 0, 0, 0}, {11, 1, 0, 0}, {12, 0, 0, 0}, {-1, 0, 0, 0}, {math.MaxInt, math.MaxInt, 0, 0}, {math.MinInt, math.MinInt, math.MinInt, math.MinInt}}},
	} {
		b := base()
		for _, s := range x.may {
			b.Progs[x.prog].Shares = append(b.Progs[x.prog].Shares, share(s))
		}
		if e := Check(b); e != api.OK {
			t.Error(x.may, e)
		}
		for _, s := range x.not {
			b := base()
			b.Progs[x.prog].Shares = []api.Share{share(s)}
			if k, e := New(b); k != nil || e != api.ErrBoot {
				t.Error(x.prog, s, e)
			}
		}
	}
}

func TestSharesOfOneThing(t *testing.T) {
	for kind := api.Untyped; kind <= api.Irq; kind++ {
		s := api.Share{Kind: kind, N: 1}
		b := api.Boot{Frames: 64, Lrs: 1, Endpoints: 2, Notes: 2, Pieces: []int{4, 4}, Progs: []api.Prog{{Data: 2}, {Guest: true}}}
		once := kind == api.Untyped || kind == api.Stream || kind == api.Irq || kind == api.Table
		b.Progs[0].Shares = []api.Share{s, s}
		if (Check(b) == api.ErrBoot) != once {
			t.Error("twice in one program", kind)
		}
		if kind != api.CNode {
			b.Progs[0].Shares, b.Progs[1].Shares = []api.Share{s}, []api.Share{s}
			if (Check(b) == api.ErrBoot) != once {
				t.Error("in two programs", kind)
			}
		}
		// Another one of the kind, and one of another kind with the number, are no second one.
		b.Progs[0].Shares, b.Progs[1].Shares = []api.Share{s, {Kind: api.Endpoint, N: 1}, {Kind: api.Tcb, N: 1}}, nil
		if kind != api.Vcpu && kind != api.CNode {
			b.Progs[0].Shares = append(b.Progs[0].Shares, api.Share{Kind: kind})
		}
		if Check(b) != api.OK {
			t.Error("two things", kind)
		}
	}
}

func TestLayout(t *testing.T) {
	b := api.Boot{
		Frames: 64, Lrs: 2, Endpoints: 2, Notes: 1, Pieces: []int{1, 8, 2},
		Progs: []api.Prog{
			{Priority: 7, Domain: 0, Data: 2, Code: []uint32{0x11223344, 0x55667788}, Shares: []api.Share{
				{Kind: api.Endpoint, N: 1, Rights: 3, Badge: 9}, {Kind: api.Frame, N: 2, Rights: 7}, {Kind: api.Tcb}, {Kind: api.CNode, N: 1},
				{Kind: api.Endpoint, N: 1, Rights: 11}, {Kind: api.Untyped, N: 1}, {Kind: api.Stream, N: 3},
			}},
			{Priority: 3, Domain: 1, Data: 1, Guest: true, Shares: []api.Share{
				{Kind: api.Vcpu, N: 1}, {Kind: api.Note, Rights: 2}, {Kind: api.Table}, {Kind: api.Endpoint, N: 1, Rights: 1}, {Kind: api.Irq, N: 15}, {Kind: api.Table, N: 1}, {Kind: api.Tcb},
			}},
		},
	}
	// 1 to 7, 8 to 14; 15, 16; 17; 18, 24 to 31, 32 and 33.
	w := start(t, b)
	same(t, w.Threads(), []int{1, 8})
	same(t, []int{w.Vmid(1), w.Vmid(8), w.Node(1), w.Node(8)}, []int{1, 2, 2, 9})
	same(t, w.Mappings(1), []api.Mapping{{Vmid: 1, Page: 0, Frame: 5, Rights: 5}, {Vmid: 1, Page: 1, Frame: 6, Rights: 3}, {Vmid: 1, Page: 2, Frame: 7, Rights: 3}})
	same(t, w.Mappings(2), []api.Mapping{{Vmid: 2, Page: 0, Frame: 12, Rights: 5}, {Vmid: 2, Page: 1, Frame: 13, Rights: 3}})
	same(t, w.Tables(), []int{3, 4, 10, 11})
	same(t, w.Regions(), []api.Region{{First: 18, Frames: 1}, {First: 24, Frames: 8}, {First: 32, Frames: 2}})
	caps := map[api.Ref]api.Cap{
		{Node: 2, Index: 1}: {Kind: api.Endpoint, Obj: 16, Rights: 3, Badge: 9}, {Node: 2, Index: 2}: {Kind: api.Frame, Obj: 13, Rights: 7},
		{Node: 2, Index: 3}: {Kind: api.Tcb, Obj: 1}, {Node: 2, Index: 4}: {Kind: api.CNode, Obj: 9, Radix: 4, GuardBits: 12},
		{Node: 2, Index: 5}: {Kind: api.Endpoint, Obj: 16, Rights: 11}, {Node: 2, Index: 6}: {Kind: api.Untyped, Obj: 24}, {Node: 2, Index: 7}: {Kind: api.Stream, Obj: 3},
		{Node: 9, Index: 1}: {Kind: api.Vcpu, Obj: 14}, {Node: 9, Index: 2}: {Kind: api.Note, Obj: 17, Rights: 2}, {Node: 9, Index: 3}: {Kind: api.Table, Obj: 3},
		{Node: 9, Index: 4}: {Kind: api.Endpoint, Obj: 16, Rights: 1}, {Node: 9, Index: 5}: {Kind: api.Irq, Obj: 15}, {Node: 9, Index: 6}: {Kind: api.Table, Obj: 10}, {Node: 9, Index: 7}: {Kind: api.Tcb, Obj: 1},
	}
	for at, c := range caps {
		got, _ := w.Slot(at)
		same(t, got, c)
	}
	same(t, len(w.Full()), len(caps))
	r := func(node, index int) api.Ref { return api.Ref{Node: node, Index: index} }
	same(t, w.List(), []api.Ref{r(9, 6), r(9, 5), r(9, 3), r(9, 2), r(9, 1), r(2, 7), r(2, 6), r(2, 4), r(2, 3), r(9, 7), r(2, 2), r(2, 1), r(9, 4), r(2, 5)})
	for _, at := range w.List() {
		wanted := 0
		if at == r(9, 7) || at == r(9, 4) || at == r(2, 5) {
			wanted = 1
		}
		same(t, w.Depth(at), wanted)
	}
	testBeginning(w)
}

// testBeginning asks what TestLayout's machine is like otherwise: the memory, threads, lines.
func testBeginning(w *world) {
	words := map[int]uint32{
		5 * 64: 0x11223344, 5*64 + 4: 0x55667788,
		3 * 64: 1 + 64*4, 4 * 64: (3 + 4*5 + 64*5) | (3+4*3+64*6)<<16, 4*64 + 4: 3 + 4*3 + 64*7,
		10 * 64: 1 + 64*11, 11 * 64: (3 + 4*5 + 64*12) | (3+4*3+64*13)<<16,
	}
	for i := range 64 * 16 {
		x, e := w.Load(4*i, 4)
		if x != words[4*i] || e != api.OK {
			w.t.Errorf("word %d: %x %d", i, x, e)
		}
	}
	task, _ := w.Task(1)
	same(w.t, task, api.Task{Id: 1, Priority: 7, Slice: 4, Awake: true})
	task, _ = w.Task(8)
	same(w.t, task, api.Task{Id: 8, Priority: 3, Domain: 1, Slice: 4, Awake: true})
	c, e := w.Cpu(8)
	same(w.t, []any{c, e}, []any{api.Cpu{Sys: [8]uint32{api.SysId: 14}}, api.OK})
	w.is(1, api.Inactive, -1, false)
	w.is(8, api.Inactive, -1, false)
	same(w.t, []int{w.Current(), w.Units(), w.Frames(), w.Stream(3)}, []int{1, 0, 64, 0})
	for i := range 16 {
		same(w.t, w.slot(0, i), api.Cap{})
	}
	w.sound()
}

// TestWhoBegins: who runs at the beginning hangs on the table's first turn.
func TestWhoBegins(t *testing.T) {
	b := pair(nil, nil)
	b.Progs[1].Priority = 6
	same(t, start(t, b).Current(), 6)
	b.Progs[1].Domain = 1
	same(t, start(t, b).Current(), 1)
	b.Table = []api.Turn{{Domain: 2, Ticks: 3}}
	same(t, start(t, b).Current(), -1)
}

// TestThrownDescriptors: whatever is asked, Check and New say the same, and what may be is sound.
func TestThrownDescriptors(t *testing.T) {
	d := &dice{7}
	may := 0
	number := func(usual ...int) int {
		if d.throw(60) == 0 {
			return d.pick(-1, 17, 64, 1024, 1<<32, math.MinInt, math.MaxInt)
		}
		return d.pick(usual...)
	}
	for range 20000 {
		b := api.Boot{Frames: number(16, 32, 64, 128), Lrs: number(1, 16), Endpoints: number(0, 1, 5), Notes: number(0, 1, 5)}
		for range number(0, 0, 1, 2) & 15 {
			b.Table = append(b.Table, api.Turn{Domain: number(0, 1, 3), Ticks: number(1, 9)})
		}
		for range number(0, 1, 2) & 15 {
			b.Pieces = append(b.Pieces, number(1, 2, 4, 8))
		}
		for range number(1, 1, 2, 3) & 15 {
			p := api.Prog{Priority: number(0, 5), Domain: number(0, 1), Handler: number(0, 9), Guest: d.throw(2) == 0, Data: number(0, 1, 4), Code: make([]uint32, number(0, 1, 16)&31)}
			for range number(0, 0, 1, 1, 2) & 31 {
				s := api.Share{Kind: number(1, 2, 3, 4, 5, 6, 7, 8, 9, 10), N: number(0, 0, 1, 2)}
				if s.Kind >= api.Endpoint && s.Kind <= api.Frame {
					s.Rights, s.Badge = number(0, 1, 2, 3), number(0, 0, 0, 5)
				}
				p.Shares = append(p.Shares, s)
			}
			b.Progs = append(b.Progs, p)
		}
		k, e := New(b)
		if e != Check(b) || (k == nil) != (e != api.OK) || e != api.OK && e != api.ErrBoot {
			t.Fatal(b, e)
		}
		if k == nil {
			continue
		}
		may++
		if s := sound(b, k); s != "" || differs(k, newModel(b)) != "" {
			t.Fatal(b, s)
		}
	}
	if may < 2000 {
		t.Error("few may be: ", may)
	}
}
