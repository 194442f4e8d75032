package confine

import (
	"fmt"
	"reflect"
	"testing"

	"viceroy/api"
	"viceroy/asm"
	"viceroy/kernel"
)

func code(src string) []uint32 {
	w, line, e := asm.Assemble(0, src)
	if e != api.OK {
		panic(fmt.Sprint("line ", line, e))
	}
	return w
}

// world is a machine, and what it was made of.
type world struct {
	*kernel.Kernel
	t *testing.T
	b api.Boot
}

func start(t *testing.T, b api.Boot) *world {
	t.Helper()
	k, e := kernel.New(b)
	if e != api.OK {
		t.Fatal("no machine: ", e)
	}
	return &world{k, t, b}
}

// steps lets so many instructions be done, each of which must go well.
func (w *world) steps(n int) {
	w.t.Helper()
	for i := range n {
		if cause, e := w.Event(api.Event{Kind: api.EvStep}); e != api.OK {
			w.t.Fatalf("step %d: %d, %v", i, cause, e)
		}
	}
}

// sees fails, if what is seen is anything else, or may not be.
func (w *world) sees(want api.View) {
	w.t.Helper()
	v := See(w.Kernel)
	if !reflect.DeepEqual(v, want) {
		w.t.Errorf("seen:\n%+v\nnot\n%+v", v, want)
	}
	if n := Check(w.b, v); n != 0 {
		w.t.Error("the rule", n)
	}
}

// example is chapter 19's first.
func example() api.Boot {
	return api.Boot{Frames: 64, Lrs: 1, Endpoints: 1, Progs: []api.Prog{
		{Priority: 5, Code: code("movi r0, 1\nsvc 4"), Shares: []api.Share{{Kind: api.Endpoint, N: 0, Rights: 3}}},
	}}
}

func TestSeeExample(t *testing.T) {
	w := start(t, example())
	want := api.View{
		Threads: []api.Seen{{Id: 1, State: api.Inactive, On: -1, Awake: true, Vmid: 1, Node: 2}},
		Current: 1,
		Slots:   []api.Place{{At: api.Ref{Node: 2, Index: 1}, Cap: api.Cap{Kind: api.Endpoint, Obj: 6, Rights: 3}}},
		Maps:    []api.Mapping{{Vmid: 1, Page: 0, Frame: 5, Rights: 5}},
		Tables:  []int{3, 4},
	}
	w.sees(want)
	w.steps(2)
	want.Threads[0] = api.Seen{Id: 1, State: api.BlockedRecv, On: 6, Vmid: 1, Node: 2}
	want.Current = -1
	w.sees(want)
}

func TestCheckExample(t *testing.T) {
	b := example()
	w := start(t, b)
	for _, x := range []struct {
		want int
		turn func(*api.View)
	}{
		{0, func(*api.View) {}},
		{1, func(v *api.View) { v.Slots[0].Depth = 1 }},
		{6, func(v *api.View) { v.Maps = []api.Mapping{{Vmid: 1, Frame: 6, Rights: 5}} }},
		{8, func(v *api.View) { v.Current = 2 }},
	} {
		v := See(w.Kernel)
		x.turn(&v)
		if n := Check(b, v); n != x.want {
			t.Errorf("%d, not %d: %+v", n, x.want, v)
		}
	}
}

// TestSeeOff sees a thread without a handler that did what is no instruction.
func TestSeeOff(t *testing.T) {
	b := example()
	b.Progs[0].Code = []uint32{0}
	w := start(t, b)
	w.Event(api.Event{Kind: api.EvStep})
	want := See(start(t, b).Kernel)
	want.Threads = []api.Seen{{Id: 1, On: -1, Off: true, Vmid: 1, Node: 2}}
	want.Current = -1
	w.sees(want)
}

// shop has a thread that makes things in the node of a second one, which maps them, and a guest.
func shop() api.Boot {
	return api.Boot{Frames: 64, Lrs: 1, Endpoints: 1, Notes: 1, Pieces: []int{8, 4}, Progs: []api.Prog{
		{Priority: 6, Data: 1, Shares: []api.Share{
			{Kind: api.Untyped, N: 0}, {Kind: api.CNode, N: 1}, {Kind: api.Endpoint, N: 0, Rights: 11},
		}, Code: code("movi r0, 1\nmovi r1, 20\nmovi r2, 6\nmovi r3, 1\nmovi r4, 5\nmovi r5, 2\nmovi r6, 2\nsvc 2\n" + // two frames, in the second one's slots 5 and 6
			"movi r2, 7\nmovi r4, 9\nmovi r5, 1\nsvc 2\n" + // a table, in its slot 9
			"movi r0, 3\nsvc 4")},
		{Priority: 5, Shares: []api.Share{
			{Kind: api.Table, N: 1}, {Kind: api.Endpoint, N: 0, Rights: 3, Badge: 4}, {Kind: api.Untyped, N: 1}, {Kind: api.Note, N: 0, Rights: 3},
		}, Code: code("movi r0, 9\nmovi r1, 225\nmovi r2, 70\nmovi r6, 1\nsvc 2\n" + // the table is that of the pages 64 to 95
			"movi r0, 6\nmovi r1, 194\nmovi r3, 3\nsvc 2\n" + // the second frame is the page 70
			"movi r0, 4\nsvc 4")},
		{Priority: 4, Guest: true, Data: 2},
	}}
}

func TestSee(t *testing.T) {
	w := start(t, shop())
	w.steps(14 + 11)
	ep, note := api.Cap{Kind: api.Endpoint, Obj: 20, Rights: 11}, api.Cap{Kind: api.Note, Obj: 21, Rights: 3}
	badged := api.Cap{Kind: api.Endpoint, Obj: 20, Rights: 3, Badge: 4}
	w.sees(api.View{
		Threads: []api.Seen{
			{Id: 1, State: api.BlockedRecv, On: 20, Vmid: 1, Node: 2},
			{Id: 7, State: api.BlockedNote, On: 21, Vmid: 2, Node: 8},
			{Id: 12, On: -1, Awake: true, Vmid: 3, Node: 13},
		},
		Current: 12,
		Slots: []api.Place{
			{At: api.Ref{Node: 8, Index: 4}, Cap: note},
			{At: api.Ref{Node: 8, Index: 3}, Cap: api.Cap{Kind: api.Untyped, Obj: 32}},
			{At: api.Ref{Node: 8, Index: 1}, Cap: api.Cap{Kind: api.Table, Obj: 9}},
			{At: api.Ref{Node: 2, Index: 3}, Cap: ep},
			{At: api.Ref{Node: 8, Index: 2}, Cap: badged, Depth: 1},
			{At: api.Ref{Node: 2, Index: 2}, Cap: api.Cap{Kind: api.CNode, Obj: 8, Radix: 4, GuardBits: 12}},
			{At: api.Ref{Node: 2, Index: 1}, Cap: api.Cap{Kind: api.Untyped, Obj: 24}},
			{At: api.Ref{Node: 8, Index: 9}, Cap: api.Cap{Kind: api.Table, Obj: 26}, Depth: 1, Mapped: true, M: api.Mapping{Vmid: 2, Page: 64, Frame: 26}},
			{At: api.Ref{Node: 8, Index: 6}, Cap: api.Cap{Kind: api.Frame, Obj: 25, Rights: 7}, Depth: 1, Mapped: true, M: api.Mapping{Vmid: 2, Page: 70, Frame: 25, Rights: 3}},
			{At: api.Ref{Node: 8, Index: 5}, Cap: api.Cap{Kind: api.Frame, Obj: 24, Rights: 7}, Depth: 1},
		},
		Maps: []api.Mapping{
			{Vmid: 1, Page: 0, Frame: 5, Rights: 5}, {Vmid: 1, Page: 1, Frame: 6, Rights: 3},
			{Vmid: 2, Page: 0, Frame: 11, Rights: 5}, {Vmid: 2, Page: 70, Frame: 25, Rights: 3},
			{Vmid: 3, Page: 0, Frame: 16, Rights: 5}, {Vmid: 3, Page: 1, Frame: 17, Rights: 3}, {Vmid: 3, Page: 2, Frame: 18, Rights: 3},
		},
		Tables:  []int{3, 4, 9, 10, 14, 15, 26},
		Regions: []api.Region{{First: 24, Frames: 8, Mark: 3}, {First: 32, Frames: 4}},
	})
}

// TestSeeAllSpaces makes as many as there can be, and maps a page in the last one.
func TestSeeAllSpaces(t *testing.T) {
	b := api.Boot{Frames: 128, Lrs: 1, Pieces: []int{8}, Progs: make([]api.Prog, 8)}
	b.Progs[0] = api.Prog{Priority: 5, Shares: []api.Share{{Kind: api.Untyped}, {Kind: api.CNode, N: 1}}, Code: code(
		"movi r0, 1\nmovi r1, 20\nmovi r2, 7\nmovi r3, 1\nmovi r4, 4\nmovi r5, 8\nmovi r6, 2\nsvc 2\nwfi")} // eight tables, in the second one's slots from 4 on
	b.Progs[1] = api.Prog{Priority: 5, Data: 1, Shares: []api.Share{{Kind: api.Frame, Rights: 1}}, Code: code(
		"movi r0, 4\nmovi r1, 256\nmovi r9, 1\nmovi r10, 11\nx: svc 2\nadd r0, r0, r9\nbne r0, r10, x\n" + // seven of them are roots
			"movi r1, 225\nmovi r6, 10\nsvc 2\n" + // the last one is mapped in the last space
			"movi r0, 1\nmovi r1, 194\nmovi r3, 1\nsvc 2")} // and by it a frame, at the page 15
	w := start(t, b)
	w.steps(9 + 4 + 7*3 + 3 + 4)
	v := See(w.Kernel)
	if len(v.Maps) != 10 || v.Maps[9] != (api.Mapping{Vmid: 15, Page: 15, Frame: 11, Rights: 1}) || len(v.Tables) != 24 {
		t.Error(v.Maps, v.Tables)
	}
	if n := Check(b, v); n != 0 {
		t.Error(n)
	}
}

// TestSeeAnew writes over all that was told: it is told again as it was.
func TestSeeAnew(t *testing.T) {
	w := start(t, shop())
	w.steps(14 + 11)
	v := See(w.Kernel)
	clear(v.Threads)
	clear(v.Slots)
	clear(v.Maps)
	clear(v.Tables)
	clear(v.Regions)
	again := See(w.Kernel)
	if again.Threads[0].Id != 1 || again.Slots[0].Cap.Kind != api.Note || again.Maps[0].Frame != 5 || again.Tables[0] != 3 || again.Regions[0].First != 24 {
		t.Error(again)
	}
}

// TestSeeChangesNothing sees behind each event of one machine, and at the end of its twin.
func TestSeeChangesNothing(t *testing.T) {
	w, twin := start(t, shop()), start(t, shop())
	for range 30 {
		See(w.Kernel)
		May(w.Kernel, 1, 6, api.Write)
		Device(w.Kernel, 3, 6, api.Write)
		n, e := w.Event(api.Event{Kind: api.EvStep})
		m, f := twin.Event(api.Event{Kind: api.EvStep})
		if n != m || e != f {
			t.Fatal(n, e, m, f)
		}
	}
	if a, b := See(w.Kernel), See(twin.Kernel); !reflect.DeepEqual(a, b) {
		t.Error(a, b)
	}
}
