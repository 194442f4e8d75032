package confine

import (
	"math"
	"reflect"
	"testing"

	"viceroy/api"
)

// house is a descriptor of three programs, the second one a guest: their first frames are 1, 8 and 15; behind them are the endpoints 20 and 21, the notification 22, and a piece of eight frames at 24.
func house() api.Boot {
	return api.Boot{Frames: 64, Lrs: 1, Endpoints: 2, Notes: 1, Pieces: []int{8}, Progs: []api.Prog{
		{Priority: 5, Data: 2}, {Priority: 5, Data: 1, Guest: true}, {Priority: 5},
	}}
}

// The slots of the view that stands: where in its list each is.
const (
	ofNote = iota
	ofLine
	ofMemory
	ofNode
	ofTable
	ofFrame
	ofCopy
	ofPiece
	ofMade
	ofEndpoint
	ofBadged
	ofTcb
	ofVcpu
	ofStream
	ofIrq
)

func place(node, index, depth int, c api.Cap) api.Place {
	return api.Place{At: api.Ref{Node: node, Index: index}, Cap: c, Depth: depth}
}

func mapped(p api.Place, vmid, page, rights int) api.Place {
	p.Mapped, p.M = true, api.Mapping{Vmid: vmid, Page: page, Frame: p.Cap.Obj, Rights: rights}
	return p
}

// stands is a view of the house in which all rules hold, with something of each that they speak of.
func stands() api.View {
	return api.View{
		Threads: []api.Seen{
			{Id: 1, On: -1, Awake: true, Vmid: 1, Node: 2},
			{Id: 8, State: api.BlockedReply, On: 15, Vmid: 2, Node: 9},
			{Id: 15, On: -1, Off: true, Vmid: 3, Node: 16},
		},
		Current: 1,
		Slots: []api.Place{
			ofNote:     place(2, 4, 0, api.Cap{Kind: api.Note, Obj: 22, Rights: 3}),
			ofLine:     place(0, 7, 1, api.Cap{Kind: api.Note, Obj: 22, Rights: 2, Badge: 9}),
			ofMemory:   place(2, 5, 0, api.Cap{Kind: api.Untyped, Obj: 24}),
			ofNode:     place(2, 6, 1, api.Cap{Kind: api.CNode, Obj: 24, Radix: 4, GuardBits: 12}),
			ofTable:    mapped(place(2, 7, 1, api.Cap{Kind: api.Table, Obj: 25}), 1, 64, 0),
			ofFrame:    mapped(place(24, 0, 1, api.Cap{Kind: api.Frame, Obj: 26, Rights: 7}), 1, 70, 3),
			ofCopy:     mapped(place(24, 1, 2, api.Cap{Kind: api.Frame, Obj: 26, Rights: 5}), 2, 3, 5),
			ofPiece:    place(24, 2, 1, api.Cap{Kind: api.Untyped, Obj: 28}),
			ofMade:     place(24, 3, 2, api.Cap{Kind: api.Endpoint, Obj: 28, Rights: 11}),
			ofEndpoint: place(2, 1, 0, api.Cap{Kind: api.Endpoint, Obj: 20, Rights: 3}),
			ofBadged:   place(9, 1, 1, api.Cap{Kind: api.Endpoint, Obj: 20, Rights: 3, Badge: 7}),
			ofTcb:      place(2, 2, 0, api.Cap{Kind: api.Tcb, Obj: 8}),
			ofVcpu:     place(2, 3, 0, api.Cap{Kind: api.Vcpu, Obj: 14}),
			ofStream:   place(2, 8, 0, api.Cap{Kind: api.Stream, Obj: 8}),
			ofIrq:      place(2, 9, 0, api.Cap{Kind: api.Irq, Obj: 8}),
		},
		Maps: []api.Mapping{
			{Vmid: 1, Page: 0, Frame: 5, Rights: 5}, {Vmid: 1, Page: 1, Frame: 6, Rights: 3}, {Vmid: 1, Page: 2, Frame: 7, Rights: 3},
			{Vmid: 1, Page: 70, Frame: 26, Rights: 3},
			{Vmid: 2, Page: 0, Frame: 12, Rights: 5}, {Vmid: 2, Page: 1, Frame: 13, Rights: 3}, {Vmid: 2, Page: 3, Frame: 26, Rights: 5},
			{Vmid: 3, Page: 0, Frame: 19, Rights: 5},
		},
		Tables:  []int{3, 4, 10, 11, 17, 18, 25},
		Regions: []api.Region{{First: 24, Frames: 8, Mark: 8}, {First: 28, Frames: 4, Mark: 1}},
	}
}

// turned is what a change of the view that stands makes of it.
type turned struct {
	name string
	want int
	turn func(v *api.View)
}

func testTurned(t *testing.T, all []turned) {
	t.Helper()
	for _, x := range all {
		v := stands()
		x.turn(&v)
		if n := Check(house(), v); n != x.want {
			t.Errorf("%s: %d, not %d", x.name, n, x.want)
		}
		if n := newModel(house()).check(v); n != x.want {
			t.Errorf("%s: the model tells %d, not %d", x.name, n, x.want)
		}
	}
}

func TestStands(t *testing.T) {
	testTurned(t, []turned{
		{"as it is", 0, func(v *api.View) {}},
		{"lists in another order", 0, func(v *api.View) {
			v.Maps[0], v.Maps[7] = v.Maps[7], v.Maps[0]
			v.Tables[0], v.Tables[6] = v.Tables[6], v.Tables[0]
			v.Threads[0], v.Threads[2] = v.Threads[2], v.Threads[0]
		}},
		{"what is told twice that is no slot or thread", 0, func(v *api.View) {
			v.Maps, v.Tables, v.Regions = append(v.Maps, v.Maps...), append(v.Tables, v.Tables...), append(v.Regions, v.Regions...)
		}},
		{"nothing but nobody", 0, func(v *api.View) { *v = api.View{Current: -1} }},
		{"nothing, and a current thread", 8, func(v *api.View) { *v = api.View{} }},
	})
}

func TestSlots(t *testing.T) {
	testTurned(t, []turned{
		{"a name twice", 1, func(v *api.View) { v.Slots[ofIrq].At = v.Slots[ofNote].At }},
		{"a name twice, side by side", 1, func(v *api.View) { v.Slots[ofCopy].At = v.Slots[ofFrame].At }},
		{"an index of two nodes", 0, func(v *api.View) { v.Slots[ofIrq].At = api.Ref{Node: 9, Index: 8} }},
		{"names of no node", 0, func(v *api.View) { v.Slots[ofIrq].At = api.Ref{Node: -5, Index: 99} }},
		{"a cap with what its kind has not", 1, func(v *api.View) { v.Slots[ofTcb].Cap.Badge = 1 }},
		{"a cap of a frame that is none", 1, func(v *api.View) { v.Slots[ofVcpu].Cap.Obj = 1024 }},
		{"a cap of no kind", 1, func(v *api.View) { v.Slots[ofIrq].Cap.Kind = 12 }},
		{"a Null's", 1, func(v *api.View) { v.Slots[ofIrq].Cap = api.Cap{} }},
		{"a Null's alone", 1, func(v *api.View) { v.Slots = []api.Place{{}} }},
		{"a Reply's", 0, func(v *api.View) { v.Slots[ofIrq].Cap = api.Cap{Kind: api.Reply, Obj: 26} }},
		{"a first one that is deep", 1, func(v *api.View) { v.Slots[ofNote].Depth = 1 }},
		{"a first one above all", 1, func(v *api.View) { v.Slots[ofNote].Depth = -1 }},
		{"a first one above all, and one behind it", 1, func(v *api.View) { v.Slots[ofNote].Depth, v.Slots[ofLine].Depth = -1, 0 }},
		{"a depth below 0", 1, func(v *api.View) { v.Slots[ofTcb].Depth = -1 }},
		{"the least depth", 1, func(v *api.View) { v.Slots[ofTcb].Depth = math.MinInt }},
		{"a depth two more", 1, func(v *api.View) { v.Slots[ofLine].Depth = 2 }},
		{"the greatest depth", 1, func(v *api.View) { v.Slots[ofLine].Depth = math.MaxInt }},
		{"a depth behind the greatest", 1, func(v *api.View) { v.Slots[ofLine].Depth, v.Slots[ofMemory].Depth = math.MaxInt, math.MinInt }},
		{"depths that rise by one, of one thing", 0, func(v *api.View) {
			for n := range 40 {
				v.Slots = append(v.Slots, place(40, n, n+1, v.Slots[ofIrq].Cap))
			}
		}},
	})
}

func TestNodes(t *testing.T) {
	testTurned(t, []turned{
		{"a node in itself", 2, func(v *api.View) { v.Slots[ofNode].At = api.Ref{Node: 24, Index: 9} }},
		{"a node in one above it", 2, func(v *api.View) { v.Slots[ofNode].At.Node = 25 }},
		{"a node in the one below it", 0, func(v *api.View) { v.Slots[ofNode].At.Node = 23 }},
		{"a node of the number 0", 2, func(v *api.View) {
			v.Slots[ofIrq] = place(0, 1, 0, api.Cap{Kind: api.CNode, Radix: 4})
		}},
		{"a node below 0", 0, func(v *api.View) { v.Slots[ofNode].At.Node = math.MinInt }},
		{"a node's copy in itself", 2, func(v *api.View) {
			v.Slots[ofMade] = place(24, 3, 0, v.Slots[ofNode].Cap)
		}},
		{"other caps in nodes above", 0, func(v *api.View) { v.Slots[ofTcb].At.Node, v.Slots[ofMemory].At.Node = 99, 100 }},
	})
}

func TestObjects(t *testing.T) {
	var all []turned
	things := map[int]int{ofNote: 22, ofNode: 24, ofTable: 25, ofFrame: 26, ofMade: 28, ofTcb: 8, ofVcpu: 14}
	kinds := []api.Cap{
		{Kind: api.CNode, Radix: 1}, {Kind: api.Tcb}, {Kind: api.Endpoint}, {Kind: api.Note}, {Kind: api.Frame}, {Kind: api.Table}, {Kind: api.Vcpu},
		{Kind: api.Untyped}, {Kind: api.Stream}, {Kind: api.Irq}, {Kind: api.Reply},
	}
	for slot, obj := range things {
		for _, c := range kinds {
			want := 3
			own := stands().Slots[slot].Cap.Kind
			if c.Kind == own || c.Kind == api.Untyped || c.Kind > api.Vcpu {
				want = 0
			}
			if c.Kind == api.Stream || c.Kind == api.Irq {
				c.Obj = obj % 16
			} else {
				c.Obj = obj
			}
			add := func(ahead bool) func(*api.View) {
				return func(v *api.View) {
					p := place(1, 0, 0, c)
					if ahead {
						v.Slots = append([]api.Place{p}, v.Slots...)
					} else {
						v.Slots = append(v.Slots, p)
					}
				}
			}
			all = append(all, turned{"one behind", want, add(false)}, turned{"one ahead", want, add(true)})
		}
	}
	testTurned(t, all)
}

func TestParents(t *testing.T) {
	testTurned(t, []turned{
		{"a child of another kind", 4, func(v *api.View) { v.Slots[ofTcb].Depth = 1 }},
		{"a child of another object", 4, func(v *api.View) { v.Slots[ofBadged].Cap.Obj = 21 }},
		{"a child of a kind with the same number", 4, func(v *api.View) { v.Slots[ofIrq].Depth = 1 }},
		{"a child with more than its parent", 0, func(v *api.View) { v.Slots[ofBadged].Cap.Rights = 11 }},
		{"anything made of memory", 0, func(v *api.View) { v.Slots[ofPiece].Cap = api.Cap{Kind: api.Untyped, Obj: 1023} }},
		{"memory made of what is none", 4, func(v *api.View) { v.Slots[ofPiece].Depth = 2 }},
		{"a parent that is no sibling", 0, func(v *api.View) { v.Slots[ofCopy].Depth = 1 }},
		{"a parent that is not the one ahead", 4, func(v *api.View) {
			// Behind the copy, at its depth, stands another thing, whose parent is the frame.
			v.Slots[ofPiece].Depth, v.Slots[ofMade].Depth = 2, 1
		}},
		{"a parent behind deeper ones", 0, func(v *api.View) {
			// Both slots ahead are deeper than the piece: its parent is the memory.
			v.Slots[ofCopy].Depth = 2
		}},
		{"the last one behind many depths", 4, func(v *api.View) {
			for n := range 9 {
				v.Slots = append(v.Slots, place(40, n, n+1, v.Slots[ofIrq].Cap))
			}
			v.Slots = append(v.Slots, place(41, 0, 1, v.Slots[ofTcb].Cap))
		}},
		{"the last one behind many depths, of the same", 0, func(v *api.View) {
			for n := range 9 {
				v.Slots = append(v.Slots, place(40, n, n+1, v.Slots[ofIrq].Cap))
			}
			v.Slots = append(v.Slots, place(41, 0, 1, v.Slots[ofIrq].Cap), place(41, 1, 2, v.Slots[ofIrq].Cap), place(41, 2, 0, v.Slots[ofTcb].Cap))
		}},
		{"a piece of memory in memory", 0, func(v *api.View) { v.Slots[ofMade] = place(24, 3, 2, api.Cap{Kind: api.Untyped, Obj: 29}) }},
	})
}

func TestMapped(t *testing.T) {
	zero := api.Mapping{}
	testTurned(t, []turned{
		{"an endpoint's", 5, func(v *api.View) { v.Slots[ofEndpoint] = mapped(v.Slots[ofEndpoint], 1, 64, 0) }},
		{"a memory's", 5, func(v *api.View) { v.Slots[ofPiece] = mapped(v.Slots[ofPiece], 1, 64, 0) }},
		{"a node's", 5, func(v *api.View) { v.Slots[ofNode] = mapped(v.Slots[ofNode], 1, 64, 0) }},
		{"a frame's of another frame", 5, func(v *api.View) { v.Slots[ofFrame].M.Frame = 6 }},
		{"a frame's of another frame, which is mapped", 5, func(v *api.View) { v.Slots[ofFrame].M = v.Maps[1] }},
		{"a frame's in another space", 5, func(v *api.View) { v.Slots[ofFrame].M.Vmid = 2 }},
		{"a frame's at another page", 5, func(v *api.View) { v.Slots[ofFrame].M.Page = 71 }},
		{"a frame's with other rights", 5, func(v *api.View) { v.Slots[ofFrame].M.Rights = 1 }},
		{"a frame's that is not mapped", 5, func(v *api.View) { v.Maps = append(v.Maps[:3:3], v.Maps[4:]...) }},
		{"a frame's with a right that its cap has not", 5, func(v *api.View) { v.Slots[ofCopy].Cap.Rights = 4 }},
		{"a frame's with no right in common", 5, func(v *api.View) { v.Slots[ofCopy].Cap.Rights = 2 }},
		{"a frame's with just its cap's rights", 0, func(v *api.View) { v.Slots[ofFrame].Cap.Rights = 3 }},
		{"a frame's with no rights", 0, func(v *api.View) { v.Slots[ofFrame].M.Rights, v.Maps[3].Rights = 0, 0 }},
		{"a frame's with rights that are none", 5, func(v *api.View) { v.Slots[ofFrame].M.Rights, v.Maps[3].Rights = 8, 8 }},
		{"a frame's with all bits", 5, func(v *api.View) { v.Slots[ofFrame].M.Rights, v.Maps[3].Rights = -1, -1 }},
		{"a page by two slots", 5, func(v *api.View) {
			v.Slots[ofCopy].Cap.Rights = 7
			v.Slots[ofCopy].M = v.Slots[ofFrame].M
		}},
		{"a page by two slots, with unlike rights", 5, func(v *api.View) {
			v.Slots[ofCopy].M = api.Mapping{Vmid: 1, Page: 70, Frame: 26, Rights: 1}
			v.Maps[6] = v.Slots[ofCopy].M
		}},
		{"a page of two spaces", 0, func(v *api.View) { v.Slots[ofCopy].M.Page, v.Maps[6].Page = 70, 70 }},
		{"two pages of a space", 0, func(v *api.View) { v.Slots[ofCopy].M.Vmid, v.Maps[6].Vmid = 1, 1 }},
		{"a table's page by a frame's slot", 0, func(v *api.View) { v.Slots[ofFrame].M.Page, v.Maps[3].Page = 64, 64 }},
		{"a table's with rights", 5, func(v *api.View) { v.Slots[ofTable].M.Rights = 1 }},
		{"a table's within its pages", 5, func(v *api.View) { v.Slots[ofTable].M.Page = 65 }},
		{"a table's at the half of its pages", 5, func(v *api.View) { v.Slots[ofTable].M.Page = 80 }},
		{"a table's at other ones", 0, func(v *api.View) { v.Slots[ofTable].M.Page = 992 }},
		{"a table's at the first ones", 0, func(v *api.View) { v.Slots[ofTable].M.Page = 0 }},
		{"a table's below all", 0, func(v *api.View) { v.Slots[ofTable].M.Page = -32 }},
		{"a table's below all, within its pages", 5, func(v *api.View) { v.Slots[ofTable].M.Page = -31 }},
		{"a table's of another table", 5, func(v *api.View) { v.Slots[ofTable].M.Frame = 4 }},
		{"a table's that is not in use", 5, func(v *api.View) { v.Tables = v.Tables[:6] }},
		{"a table's at no space of a thread", 0, func(v *api.View) { v.Slots[ofTable].M.Vmid = 15 }},
		{"a table that has mapped nothing", 0, func(v *api.View) { v.Slots[ofTable].Mapped, v.Slots[ofTable].M = false, zero }},
		{"a frame that has mapped nothing", 0, func(v *api.View) {
			v.Slots[ofFrame].Mapped, v.Slots[ofFrame].M = false, zero
			v.Maps = append(v.Maps[:3:3], v.Maps[4:]...)
		}},
		{"a frame that has mapped nothing, with all else", 5, func(v *api.View) { v.Slots[ofFrame].Mapped = false }},
		{"a table that has mapped nothing, with a space", 5, func(v *api.View) {
			v.Slots[ofTable].Mapped, v.Slots[ofTable].M = false, api.Mapping{Vmid: 1}
		}},
		{"a Tcb that has mapped nothing, with a page", 5, func(v *api.View) { v.Slots[ofTcb].M.Page = 1 }},
		{"a Tcb that has mapped nothing, with a frame", 5, func(v *api.View) { v.Slots[ofTcb].M.Frame = 8 }},
		{"a Tcb that has mapped nothing, with a right", 5, func(v *api.View) { v.Slots[ofTcb].M.Rights = 1 }},
		{"a Frame of the number 0 that has mapped a zero M", 5, func(v *api.View) {
			v.Slots[ofIrq] = place(2, 9, 0, api.Cap{Kind: api.Frame})
			v.Slots[ofIrq].Mapped = true
		}},
	})
}

func TestOwners(t *testing.T) {
	all := []turned{
		{"a page that nobody has mapped", 6, func(v *api.View) { v.Maps = append(v.Maps, api.Mapping{Vmid: 1, Page: 71, Frame: 26, Rights: 3}) }},
		{"a slot's page with other rights too", 6, func(v *api.View) { v.Maps = append(v.Maps, api.Mapping{Vmid: 1, Page: 70, Frame: 26, Rights: 1}) }},
		{"a table's slot's", 6, func(v *api.View) { v.Maps = append(v.Maps, v.Slots[ofTable].M) }},
		{"the first one's code, with the right to write", 6, func(v *api.View) { v.Maps[0].Rights = 7 }},
		{"the first one's code, without a right", 6, func(v *api.View) { v.Maps[0].Rights = 1 }},
		{"the first one's data, with the right to execute", 6, func(v *api.View) { v.Maps[1].Rights = 7 }},
		{"the first one's data, with one right less", 6, func(v *api.View) { v.Maps[1].Rights = 1 }},
		{"the first one's data, the one for the other", 6, func(v *api.View) { v.Maps[1].Frame, v.Maps[2].Frame = 7, 6 }},
		{"the first one's code for another one's", 6, func(v *api.View) { v.Maps[0].Frame = 12 }},
		{"the guest's data in the first one's space", 6, func(v *api.View) { v.Maps[5].Vmid = 1 }},
		{"the guest's virtual processor as its second frame of data", 6, func(v *api.View) {
			v.Maps = append(v.Maps, api.Mapping{Vmid: 2, Page: 2, Frame: 14, Rights: 3})
		}},
		{"what is behind the last one's code", 6, func(v *api.View) {
			v.Maps = append(v.Maps, api.Mapping{Vmid: 3, Page: 1, Frame: 20, Rights: 3})
		}},
		{"a space behind the last one's", 6, func(v *api.View) { v.Maps[7].Vmid = 4 }},
		{"no space", 6, func(v *api.View) { v.Maps[0].Vmid = 0 }},
		{"a space of the number 15, by a slot", 0, func(v *api.View) { v.Slots[ofCopy].M.Vmid, v.Maps[6].Vmid = 15, 15 }},
		{"a zero one", 6, func(v *api.View) { v.Maps = append(v.Maps, api.Mapping{}) }},
		{"a zero one, and a frame's slot that has mapped nothing", 6, func(v *api.View) {
			v.Slots[ofIrq] = place(2, 9, 0, api.Cap{Kind: api.Frame, Obj: 40})
			v.Maps = append(v.Maps, api.Mapping{})
		}},
		{"no pages of the boot's", 0, func(v *api.View) { v.Maps = []api.Mapping{v.Maps[3], v.Maps[6]} }},
	}
	for n := range stands().Maps {
		all = append(all, turned{"another page", map[bool]int{true: 5, false: 6}[n == 3 || n == 6], func(v *api.View) { v.Maps[n].Page += 4 }})
	}
	testTurned(t, all)
}

// TestMemory gives a slot's page another frame: it is to be memory.
func TestMemory(t *testing.T) {
	frame := func(n int) func(*api.View) {
		return func(v *api.View) {
			// The copy would be the child of another frame: its slot has something else that was made.
			v.Slots[ofFrame], v.Slots[ofCopy] = mapped(place(24, 0, 1, api.Cap{Kind: api.Frame, Obj: n, Rights: 7}), 1, 70, 3), place(24, 1, 1, api.Cap{Kind: api.Reply, Obj: 1})
			v.Maps = append(v.Maps[:6:6], v.Maps[7])
			v.Maps[3] = v.Slots[ofFrame].M
		}
	}
	var all []turned
	for n := range 64 {
		want := 0
		switch n {
		case 3, 4, 10, 11, 17, 18: // tables in use
			want = 7
		case 1, 2, 9, 15, 16: // Tcbs and nodes of the boot's, without caps
			want = 7
		case 8, 14, 20, 22, 24, 25, 28: // what there are caps of
			want = 3
		case 29, 30, 31: // behind the mark of a region
			want = 7
		}
		all = append(all, turned{"the frame of a slot", want, frame(n)})
	}
	testTurned(t, all)
}

// TestMemoryOfObjects lets a page of the boot's be an object: of those there is no Frame's cap that rule 3 would find.
func TestMemoryOfObjects(t *testing.T) {
	var all []turned
	for kind := api.Untyped; kind <= api.Reply; kind++ {
		c := api.Cap{Kind: kind, Obj: 6}
		if kind == api.CNode {
			c.Radix = 1
		}
		want := 0
		switch kind {
		case api.CNode, api.Tcb, api.Endpoint, api.Note, api.Table, api.Vcpu:
			want = 7
		}
		all = append(all, turned{"a cap of a page's frame", want, func(v *api.View) { v.Slots = append(v.Slots, place(1, 1, 0, c)) }})
	}
	testTurned(t, append(all, turned{"a table in use", 7, func(v *api.View) { v.Tables = append(v.Tables, 19) }}))
}

func TestRegions(t *testing.T) {
	// The page's frame is 26.
	region := func(first, frames, mark int) func(*api.View) {
		return func(v *api.View) { v.Regions = append(v.Regions, api.Region{First: first, Frames: frames, Mark: mark}) }
	}
	testTurned(t, []turned{
		{"none at all", 0, func(v *api.View) { v.Regions = nil }},
		{"the frame is the first that is left", 7, region(24, 8, 2)},
		{"the frame is the last that is given", 0, region(24, 8, 3)},
		{"nothing is given", 7, region(24, 8, 0)},
		{"the frame is the last one", 7, region(24, 3, 2)},
		{"the frame is behind the last one", 0, region(24, 2, 0)},
		{"the frame is the first one", 7, region(26, 1, 0)},
		{"the frame is ahead of the first one", 0, region(27, 9, 0)},
		{"the frame is ahead of the first one, and behind the mark", 0, region(27, 9, -9)},
		{"the frame is behind a mark below 0", 7, region(26, 1, -9)},
		{"a device's", 7, func(v *api.View) { v.Regions[0] = api.Region{First: 24, Frames: 8, Device: true} }},
		{"no frames", 0, region(26, 0, 0)},
		{"less than no frames", 0, region(26, -1, -1)},
		{"the least number of frames", 0, region(26, math.MinInt, math.MinInt)},
		{"all frames that there could be", 7, region(0, math.MaxInt, 0)},
		{"as many frames behind the first one", 7, region(1, math.MaxInt, 0)},
		{"as many frames behind the frame", 7, region(26, math.MaxInt, 0)},
		{"a mark as great as can be", 0, region(20, math.MaxInt, math.MaxInt)},
		{"a mark that would wrap round, behind a great first one", 0, region(math.MaxInt, 1, math.MinInt)},
		{"the least first one, and too few frames", 0, region(math.MinInt, math.MaxInt, 0)},
		{"the least first one, and the least mark", 0, region(math.MinInt, math.MaxInt, math.MinInt)},
		{"a first one below 0, as many frames", 7, region(-5, math.MaxInt, 0)},
		{"a first one below 0, and a mark up to the frame", 7, region(-5, 32, 31)},
		{"a first one below 0, and a mark behind it", 0, region(-5, 32, 32)},
		{"a first one below 0, and frames up to it", 0, region(-5, 31, 26)},
		{"a first one below 0, and frames up to it and with it", 7, region(-5, 32, 26)},
		{"the greatest first one", 0, region(math.MaxInt, math.MaxInt, 0)},
	})
	great := []turned{
		{"a great frame in a great region", 7, region(math.MaxInt-1, 2, 1)},
		{"a great frame behind a great region", 0, region(math.MaxInt-1, 1, 0)},
		{"a great frame in a region from the least on", 0, region(math.MinInt, math.MaxInt, 0)},
		{"a great frame in a region from -1 on", 0, region(-1, math.MaxInt, 0)},
		{"a great frame in a region from 0 on", 0, region(0, math.MaxInt, 0)},
		{"a great frame in a region from 1 on", 7, region(1, math.MaxInt, 0)},
		{"a great frame in a region from 1 on, given but for it", 7, region(1, math.MaxInt, math.MaxInt-1)},
		{"a great frame in a region from 1 on, given", 0, region(1, math.MaxInt, math.MaxInt)},
	}
	none := api.Boot{}
	for _, x := range great {
		v := api.View{Current: -1, Maps: []api.Mapping{{Frame: math.MaxInt}}}
		x.turn(&v)
		if n, m := Check(none, v), newModel(none).check(v); n != x.want || m != x.want {
			t.Errorf("%s: %d, %d, not %d", x.name, n, m, x.want)
		}
	}
	least := []turned{
		{"the least frame in a region of it", 7, region(math.MinInt, 1, 0)},
		{"the least frame in a great region", 7, region(math.MinInt, math.MaxInt, math.MinInt)},
		{"the least frame ahead of a region", 0, region(math.MinInt+1, math.MaxInt, 0)},
		{"the least frame far ahead of a region", 0, region(math.MaxInt, 5, 0)},
		{"the least frame far ahead of a great region", 0, region(math.MaxInt, math.MaxInt, math.MinInt)},
	}
	for _, x := range least {
		v := api.View{Current: -1, Maps: []api.Mapping{{Frame: math.MinInt}}}
		x.turn(&v)
		if n, m := Check(none, v), newModel(none).check(v); n != x.want || m != x.want {
			t.Errorf("%s: %d, %d, not %d", x.name, n, m, x.want)
		}
	}
}

func TestThreads(t *testing.T) {
	all := []turned{
		{"a number twice", 8, func(v *api.View) { v.Threads[2].Id = 1 }},
		{"two sleepers of one number", 8, func(v *api.View) { v.Threads[2].Id = 8 }},
		{"one that is asleep", 8, func(v *api.View) { v.Threads[0].Awake, v.Current = false, -1 }},
		{"one that is off, and awake", 8, func(v *api.View) { v.Threads[2].Awake = true }},
		{"one that waits, and is awake", 8, func(v *api.View) { v.Threads[1].Awake = true }},
		{"one that waits, and is off", 0, func(v *api.View) { v.Threads[1].Off = true }},
		{"one that waits, and is off, and awake", 8, func(v *api.View) { v.Threads[1].Off, v.Threads[1].Awake = true, true }},
		{"nobody is current", 0, func(v *api.View) { v.Current = -1 }},
		{"below nobody", 8, func(v *api.View) { v.Current = -2 }},
		{"who waits is current", 8, func(v *api.View) { v.Current = 8 }},
		{"who is off is current", 8, func(v *api.View) { v.Current = 15 }},
		{"who is not there is current", 8, func(v *api.View) { v.Current = 2 }},
		{"no threads, and one is current", 8, func(v *api.View) { v.Threads = nil }},
		{"no threads", 0, func(v *api.View) { v.Threads, v.Current = nil, -1 }},
		{"a thread of the number of nobody", 0, func(v *api.View) { v.Threads[0].Id, v.Current = -1, -1 }},
		{"no program of the boot's", 0, func(v *api.View) { v.Threads[0].Id, v.Current = 60, 60 }},
		{"other spaces and nodes", 0, func(v *api.View) { v.Threads[0].Vmid, v.Threads[0].Node = 99, -5 }},
		{"Running", 8, func(v *api.View) { v.Threads[1].State, v.Threads[1].On = api.Running, -1 }},
		{"Running, and awake", 8, func(v *api.View) { v.Threads[0].State = api.Running }},
		{"a state behind all", 8, func(v *api.View) { v.Threads[1].State, v.Threads[1].On = 6, -1 }},
		{"a state below all", 8, func(v *api.View) { v.Threads[1].State, v.Threads[1].On = -1, -1 }},
	}
	endpoints, notes, threads := []int{20, 28}, []int{22}, []int{1, 8, 15, -1}
	for state, right := range map[int][]int{
		api.Inactive: {-1}, api.BlockedSend: endpoints, api.BlockedRecv: endpoints, api.BlockedReply: threads, api.BlockedNote: notes,
	} {
		for on := -3; on < 40; on++ {
			want := 8
			for _, n := range right {
				if n == on {
					want = 0
				}
			}
			all = append(all, turned{"where one waits", want, func(v *api.View) {
				v.Threads[1] = api.Seen{Id: 8, State: state, On: on, Awake: state == api.Inactive}
			}}, turned{"where one waits who is off", want, func(v *api.View) {
				v.Threads[1] = api.Seen{Id: 8, State: state, On: on, Off: true}
			}})
		}
	}
	testTurned(t, all)
}

// TestFirstRule breaks two rules: the first one is told.
func TestFirstRule(t *testing.T) {
	broken := []func(v *api.View){
		1: func(v *api.View) { v.Slots = append(v.Slots, place(50, 1, 0, api.Cap{Kind: api.Null})) },
		2: func(v *api.View) {
			v.Slots = append(v.Slots, place(50, 2, 0, api.Cap{Kind: api.CNode, Obj: 50, Radix: 1}))
		},
		3: func(v *api.View) { v.Slots = append(v.Slots, place(50, 3, 0, api.Cap{Kind: api.Tcb, Obj: 14})) },
		4: func(v *api.View) {
			v.Slots = append(v.Slots, place(50, 4, 0, api.Cap{Kind: api.Tcb, Obj: 40}), place(50, 5, 1, api.Cap{Kind: api.Tcb, Obj: 41}))
		},
		5: func(v *api.View) { v.Slots[ofTcb].M.Page = 1 },
		6: func(v *api.View) { v.Maps = append(v.Maps, api.Mapping{Vmid: 9, Frame: 60}) },
		7: func(v *api.View) { v.Tables = append(v.Tables, 19) },
		8: func(v *api.View) { v.Current = 15 },
	}
	for first := 1; first <= 8; first++ {
		for second := first; second <= 8; second++ {
			v := stands()
			broken[second](&v)
			if n := Check(house(), v); n != second {
				t.Errorf("%d, not %d", n, second)
			}
			if second > first {
				broken[first](&v)
			}
			if n := Check(house(), v); n != first {
				t.Errorf("%d, not %d ahead of %d", n, first, second)
			}
		}
	}
}

// TestNoBoot asks of a descriptor that may not be: nothing is the boot's, and no page needs an owner.
func TestNoBoot(t *testing.T) {
	wrong := []api.Boot{{}, house(), house(), house(), {Frames: math.MaxInt, Endpoints: math.MinInt, Progs: make([]api.Prog, 100)}}
	wrong[1].Frames = 31
	wrong[2].Progs[0].Data = 5
	wrong[3].Progs[0].Data = math.MaxInt
	for _, b := range wrong {
		v := stands()
		if n := Check(b, v); n != 0 {
			t.Error("as it is:", n)
		}
		v.Maps = append(v.Maps, api.Mapping{Vmid: -3, Page: -4, Frame: 60, Rights: 99})
		if n := Check(b, v); n != 0 {
			t.Error("a page of nobody:", n)
		}
		v.Maps = append(v.Maps, api.Mapping{Frame: 1}, api.Mapping{Frame: 2}, api.Mapping{Frame: 9})
		if n := Check(b, v); n != 0 {
			t.Error("what would be the boot's:", n)
		}
		v.Maps = append(v.Maps, api.Mapping{Frame: 14})
		if n := Check(b, v); n != 7 {
			t.Error("what there is a cap of:", n)
		}
	}
}

// TestLayout asks of many descriptors what is whose: the model is told by machines that are made of them.
func TestLayout(t *testing.T) {
	for bits := range 10 {
		for data := range 5 {
			b := api.Boot{Frames: 64, Lrs: 1, Endpoints: bits % 3, Notes: data % 2}
			for n := range 1 + bits%5 {
				b.Progs = append(b.Progs, api.Prog{Guest: bits>>n&1 == 1, Data: (data + n*bits) % 5})
			}
			m := newModel(b)
			for _, x := range m.pages {
				if n := Check(b, api.View{Current: -1, Maps: []api.Mapping{x}}); n != 0 {
					t.Fatal(b, x, n)
				}
			}
			for frame := range 64 {
				// The page is a slot's: what is the boot's is rule 7's.
				p := mapped(place(0, 0, 0, api.Cap{Kind: api.Frame, Obj: frame, Rights: 7}), 14, 999, 7)
				v := api.View{Current: -1, Slots: []api.Place{p}, Maps: []api.Mapping{p.M}}
				want := 0
				if m.objects[frame] {
					want = 7
				}
				if n := Check(b, v); n != want {
					t.Fatal(b, frame, n, want)
				}
				for vmid := range 6 {
					for page := range 6 {
						for _, rights := range []int{3, 5} {
							x := api.Mapping{Vmid: vmid, Page: page, Frame: frame, Rights: rights}
							v := api.View{Current: -1, Maps: []api.Mapping{x}}
							if n, want := Check(b, v), m.check(v); n != want {
								t.Fatal(b, x, n, want)
							}
						}
					}
				}
			}
		}
	}
}

// TestCheckChangesNothing asks twice, and holds what was handed in against what it was.
func TestCheckChangesNothing(t *testing.T) {
	b, v := house(), stands()
	v.Current = 15
	for range 2 {
		if n := Check(b, v); n != 8 {
			t.Error(n)
		}
	}
	want := stands()
	want.Current = 15
	if !reflect.DeepEqual(v, want) || !reflect.DeepEqual(b, house()) {
		t.Error("it changed")
	}
}

// TestMany asks of as many slots and pages as a machine could have.
func TestMany(t *testing.T) {
	v := api.View{Current: -1}
	for node := range 1000 {
		for index := range 16 {
			c := api.Cap{Kind: api.Tcb, Obj: 1023}
			if index == 15 {
				c = api.Cap{Kind: api.Untyped, Obj: node}
			}
			v.Slots = append(v.Slots, place(node, index, min(index, 1), c))
		}
	}
	for vmid := range 15 {
		for page := range 1024 {
			v.Maps = append(v.Maps, api.Mapping{Vmid: 1 + vmid, Page: page, Frame: 1000})
		}
	}
	for n := range 1000 {
		v.Regions = append(v.Regions, api.Region{First: n, Frames: 1})
	}
	if n := Check(api.Boot{}, v); n != 4 {
		t.Error(n)
	}
	for n := range v.Slots {
		if v.Slots[n].Cap.Kind == api.Untyped {
			v.Slots[n].Depth = 0
		}
	}
	if n := Check(api.Boot{}, v); n != 0 {
		t.Error(n)
	}
}
