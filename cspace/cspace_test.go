package cspace

import (
	"math"
	"slices"
	"testing"

	"viceroy/api"
)

// farNumbers are such as no number, index, radix or depth is.
var farNumbers = []int{math.MinInt, math.MinInt + 1, -1 << 32, -1 << 16, -1024, -17, -1, 1024, 1025, 1 << 16, 1 << 32, 1<<32 + 1, 1 << 62, math.MaxInt - 1, math.MaxInt}

var (
	tcb   = api.Cap{Kind: api.Tcb, Obj: 7}
	null  = api.Cap{}
	noRef = api.Ref{}
)

func cnode(obj, radix, guard, bits int) api.Cap {
	return api.Cap{Kind: api.CNode, Obj: obj, Radix: radix, Guard: guard, GuardBits: bits}
}

func ref(node, index int) api.Ref { return api.Ref{Node: node, Index: index} }

// answers asks for an error; want is api.OK for none.
func answers(t *testing.T, what string, got, want api.Errno) {
	t.Helper()
	if got != want {
		t.Errorf("%s: %v; want %v", what, got, want)
	}
}

func add(t *testing.T, s *Space, id, radix int) {
	t.Helper()
	answers(t, "AddNode", s.AddNode(id, radix), api.OK)
}

func put(t *testing.T, s *Space, at api.Ref, c api.Cap) {
	t.Helper()
	answers(t, "Put", s.Put(at, c), api.OK)
}

func gets(t *testing.T, s *Space, at api.Ref, want api.Cap, err api.Errno) {
	t.Helper()
	if c, e := s.Get(at); c != want || e != err {
		t.Errorf("Get(%v) = %+v, %v; want %+v, %v", at, c, e, want, err)
	}
}

func radix(t *testing.T, s *Space, id, want int) {
	t.Helper()
	if got := s.Radix(id); got != want {
		t.Errorf("Radix(%d) = %d; want %d", id, got, want)
	}
}

func full(t *testing.T, s *Space, want ...api.Ref) {
	t.Helper()
	if got := s.Full(); !slices.Equal(got, want) {
		t.Errorf("Full() = %v; want %v", got, want)
	}
}

// asked is what an address is asked by.
type asked struct {
	root  api.Cap
	cptr  uint32
	depth int
}

func resolves(t *testing.T, s *Space, a asked, want api.Ref, bits int) {
	t.Helper()
	if at, left, e := s.Resolve(a.root, a.cptr, a.depth); at != want || left != bits || e != api.OK {
		t.Errorf("Resolve(%+v) = %v, %d, %v; want %v, %d", a, at, left, e, want, bits)
	}
	wantSlot, err := want, api.OK
	if bits > 0 {
		wantSlot, err = noRef, api.ErrDepth
	}
	if at, e := s.Slot(a.root, a.cptr, a.depth); at != wantSlot || e != err {
		t.Errorf("Slot(%+v) = %v, %v; want %v, %v", a, at, e, wantSlot, err)
	}
}

func refuses(t *testing.T, s *Space, a asked, err api.Errno) {
	t.Helper()
	if at, left, e := s.Resolve(a.root, a.cptr, a.depth); at != noRef || left != 0 || e != err {
		t.Errorf("Resolve(%+v) = %v, %d, %v; want %v", a, at, left, e, err)
	}
	if at, e := s.Slot(a.root, a.cptr, a.depth); at != noRef || e != err {
		t.Errorf("Slot(%+v) = %v, %v; want %v", a, at, e, err)
	}
}

func looksUp(t *testing.T, s *Space, root api.Cap, cptr uint32, want api.Cap, wantAt api.Ref, err api.Errno) {
	t.Helper()
	if c, at, e := s.Lookup(root, cptr); c != want || at != wantAt || e != err {
		t.Errorf("Lookup(%+v, %d) = %+v, %v, %v; want %+v, %v, %v", root, cptr, c, at, e, want, wantAt, err)
	}
}

// example is the chapter's: the nodes 10 and 20, and R.
func example(t *testing.T) (*Space, api.Cap) {
	t.Helper()
	s := New()
	add(t, s, 10, 2)
	add(t, s, 20, 1)
	put(t, s, ref(10, 1), cnode(20, 1, 0, 0))
	return s, cnode(10, 2, 5, 3)
}

func TestExamples(t *testing.T) {
	s, r := example(t)
	resolves(t, s, asked{r, 21, 5}, ref(10, 1), 0)
	resolves(t, s, asked{r, 171, 8}, ref(20, 0), 2)
	refuses(t, s, asked{r, 17, 5}, api.ErrGuard)
	refuses(t, s, asked{r, 5, 2}, api.ErrGuard)
	refuses(t, s, asked{r, 10, 4}, api.ErrDepth)
	if at, e := s.Slot(r, 171, 8); at != noRef || e != api.ErrDepth {
		t.Error("Slot:", at, e)
	}
	refuses(t, s, asked{tcb, 21, 5}, api.ErrLookup)
	refuses(t, s, asked{cnode(10, 3, 5, 3), 40, 6}, api.ErrNode)
	answers(t, "DropNode(10)", s.DropNode(10), api.ErrFull)
	answers(t, "AddNode(10, 1)", s.AddNode(10, 1), api.ErrFull)
	answers(t, "AddNode(3, 5)", s.AddNode(3, 5), api.ErrArg)
	radix(t, s, 10, 2)
	radix(t, s, 3, 0)
	full(t, s, ref(10, 1))
}

func TestErrorNumbers(t *testing.T) {
	got := []api.Errno{api.ErrArg, api.ErrNode, api.ErrLookup, api.ErrGuard, api.ErrDepth, api.ErrFull, api.ErrKind}
	if !slices.Equal(got, []api.Errno{1, 120, 121, 122, 123, 130, 141}) {
		t.Error("the chapter's numbers:", got)
	}
}

func TestN1New(t *testing.T) {
	s := New()
	full(t, s)
	for id := range api.MaxFrames {
		radix(t, s, id, 0)
		answers(t, "DropNode", s.DropNode(id), api.ErrNode)
		gets(t, s, ref(id, 0), null, api.ErrNode)
	}
	other := New()
	add(t, s, 5, 1)
	radix(t, other, 5, 0)
}

func TestN1AddNode(t *testing.T) {
	for _, id := range []int{-1, 0, 1023, 1024} {
		for _, r := range []int{0, 1, 4, 5} {
			s := New()
			if id == -1 || id == 1024 || r == 0 || r == 5 {
				answers(t, "AddNode", s.AddNode(id, r), api.ErrArg)
				radix(t, s, id, 0)
				answers(t, "DropNode", s.DropNode(id), api.ErrNode)
				continue
			}
			add(t, s, id, r)
			radix(t, s, id, r)
			answers(t, "again", s.AddNode(id, r), api.ErrFull)
			answers(t, "again, with another radix", s.AddNode(id, 5-r), api.ErrFull)
			for _, wrong := range []int{-1, 0, 5} {
				answers(t, "again, with no radix", s.AddNode(id, wrong), api.ErrArg)
			}
			radix(t, s, id, r)
		}
	}
	s := New()
	for _, n := range farNumbers {
		answers(t, "AddNode(far, 1)", s.AddNode(n, 1), api.ErrArg)
		answers(t, "AddNode(1, far)", s.AddNode(1, n), api.ErrArg)
		radix(t, s, n, 0)
	}
	radix(t, s, 1, 0)
}

func TestN1NewNodesSlots(t *testing.T) {
	for r := 1; r <= 4; r++ {
		s := New()
		add(t, s, 9, r)
		for i := range 1 << r {
			gets(t, s, ref(9, i), null, api.OK)
		}
		gets(t, s, ref(9, 1<<r), null, api.ErrArg)
		full(t, s)
	}
}

func TestN1AllNodes(t *testing.T) {
	s := New()
	for id := range 1024 {
		add(t, s, id, 1+id%4)
		put(t, s, ref(id, id%2), tcb)
	}
	for id := range 1024 {
		radix(t, s, id, 1+id%4)
		gets(t, s, ref(id, id%2), tcb, api.OK)
		gets(t, s, ref(id, 1-id%2), null, api.OK)
	}
	if got := s.Full(); len(got) != 1024 || got[777] != ref(777, 1) {
		t.Error("Full() has", len(got))
	}
}

func TestN1DropNode(t *testing.T) {
	for r := 1; r <= 4; r++ {
		last := 1<<r - 1
		for _, at := range []int{0, last / 2, last} {
			s := New()
			add(t, s, 30, r)
			add(t, s, 31, r)
			put(t, s, ref(30, at), tcb)
			answers(t, "DropNode of one with a cap", s.DropNode(30), api.ErrFull)
			gets(t, s, ref(30, at), tcb, api.OK)
			radix(t, s, 30, r)
			put(t, s, ref(30, at), null)
			answers(t, "DropNode of one that was emptied", s.DropNode(30), api.OK)
			radix(t, s, 30, 0)
			radix(t, s, 31, r)
			gets(t, s, ref(30, at), null, api.ErrNode)
			answers(t, "Put into none", s.Put(ref(30, at), tcb), api.ErrNode)
			answers(t, "DropNode of none", s.DropNode(30), api.ErrNode)
			answers(t, "DropNode of an empty one", s.DropNode(31), api.OK)
		}
	}
	s := New()
	add(t, s, 0, 1)
	for _, n := range farNumbers {
		answers(t, "DropNode(far)", s.DropNode(n), api.ErrNode)
	}
	radix(t, s, 0, 1)
}

func TestN1DroppedAndAddedAgain(t *testing.T) {
	s := New()
	for i := range 16 {
		r := 1 + i*3%4
		last := 1<<r - 1
		add(t, s, 40, r)
		radix(t, s, 40, r)
		for index := range 1 << r {
			gets(t, s, ref(40, index), null, api.OK)
		}
		gets(t, s, ref(40, last+1), null, api.ErrArg)
		put(t, s, ref(40, last), tcb)
		put(t, s, ref(40, last), null)
		answers(t, "DropNode", s.DropNode(40), api.OK)
	}
}

func TestN2Get(t *testing.T) {
	for r := 1; r <= 4; r++ {
		s := New()
		add(t, s, 50, r)
		last := 1<<r - 1
		for i := range 1 << r {
			put(t, s, ref(50, i), api.Cap{Kind: api.Endpoint, Obj: i, Rights: api.Read, Badge: 100 + i})
		}
		for i := range 1 << r {
			gets(t, s, ref(50, i), api.Cap{Kind: api.Endpoint, Obj: i, Rights: api.Read, Badge: 100 + i}, api.OK)
		}
		for _, i := range append([]int{-1, last + 1, last + 2}, farNumbers...) {
			gets(t, s, ref(50, i), null, api.ErrArg)
			gets(t, s, ref(51, i), null, api.ErrNode)
			gets(t, s, ref(i, 0), null, api.ErrNode)
		}
	}
}

func TestN2Put(t *testing.T) {
	s := New()
	add(t, s, 50, 2)
	wrong := api.Cap{Kind: api.Tcb, Badge: 1}
	for _, c := range []api.Cap{tcb, null, wrong} {
		for _, i := range append([]int{-1, 4, 5}, farNumbers...) {
			answers(t, "Put at no index", s.Put(ref(50, i), c), api.ErrArg)
			answers(t, "Put at no index of no node", s.Put(ref(51, i), c), api.ErrNode)
			answers(t, "Put into a far node", s.Put(ref(max(i, 1024), 0), c), api.ErrNode)
		}
		answers(t, "Put into no node", s.Put(ref(51, 0), c), api.ErrNode)
	}
	full(t, s)
	for _, i := range []int{0, 3} {
		put(t, s, ref(50, i), tcb)
		answers(t, "Put of a wrong cap", s.Put(ref(50, i), wrong), api.ErrKind)
		gets(t, s, ref(50, i), tcb, api.OK)
		put(t, s, ref(50, i), cnode(50, 2, 3, 2))
		gets(t, s, ref(50, i), cnode(50, 2, 3, 2), api.OK)
		put(t, s, ref(50, i), tcb)
		gets(t, s, ref(50, i), tcb, api.OK)
	}
	full(t, s, ref(50, 0), ref(50, 3))
	put(t, s, ref(50, 0), null)
	gets(t, s, ref(50, 0), null, api.OK)
	gets(t, s, ref(50, 3), tcb, api.OK)
	full(t, s, ref(50, 3))
}

func TestN2PutOfEachKind(t *testing.T) {
	s := New()
	add(t, s, 1, 1)
	at := ref(1, 1)
	for kind := range 12 {
		c := api.Cap{Kind: kind}
		if kind == api.CNode {
			c.Radix = 4
		}
		put(t, s, at, c)
		gets(t, s, at, c, api.OK)
		if kind == api.Null {
			full(t, s)
		} else {
			full(t, s, at)
		}
	}
	put(t, s, at, tcb)
	for _, c := range []api.Cap{
		{Kind: -1}, {Kind: 12}, {Kind: 99}, {Obj: 1}, {Device: true}, {Kind: api.Tcb, Obj: -1}, {Kind: api.Tcb, Obj: 1024},
		{Kind: api.CNode}, cnode(1, 0, 0, 0), cnode(1, 5, 0, 0), cnode(1, 1, 2, 1), cnode(1, 1, 0, 17), cnode(1024, 1, 0, 0),
		{Kind: api.Note, Rights: api.Grant}, {Kind: api.Frame, Rights: api.Grant}, {Kind: api.Stream, Obj: 16}, {Kind: api.Irq, Obj: 32},
	} {
		answers(t, "Put of a wrong cap", s.Put(at, c), api.ErrKind)
		gets(t, s, at, tcb, api.OK)
	}
}

func TestN2Full(t *testing.T) {
	want := []api.Ref{ref(0, 0), ref(0, 1), ref(2, 3), ref(10, 0), ref(10, 7), ref(10, 15), ref(99, 1), ref(1023, 0), ref(1023, 15)}
	radices := map[int]int{0: 1, 2: 2, 10: 4, 99: 1, 1023: 4, 500: 3}
	d := dice{x: 12}
	for range 50 {
		s := New()
		order := slices.Clone(want)
		for i := range order {
			j := i + d.throw(len(order)-i)
			order[i], order[j] = order[j], order[i]
		}
		add(t, s, 500, radices[500])
		for _, at := range order {
			if s.Radix(at.Node) == 0 {
				add(t, s, at.Node, radices[at.Node])
			}
			put(t, s, at, tcb)
		}
		full(t, s, want...)
	}
}

func TestR5FullIsTheCallersOwn(t *testing.T) {
	s, _ := example(t)
	put(t, s, ref(20, 1), tcb)
	list := s.Full()
	list[0] = ref(77, 7)
	_ = append(list[:1], ref(88, 8))
	full(t, s, ref(10, 1), ref(20, 1))
	old := s.Full()
	put(t, s, ref(10, 0), tcb)
	if !slices.Equal(old, []api.Ref{ref(10, 1), ref(20, 1)}) {
		t.Error("what was told has changed:", old)
	}
}

func TestN3Root(t *testing.T) {
	s := New()
	add(t, s, 1, 1)
	wrong := []api.Cap{null, tcb, {Kind: -1}, {Kind: 12}, {Kind: api.CNode, Obj: 1}, cnode(1, 5, 0, 0), cnode(1, -1, 0, 0), cnode(-1, 1, 0, 0), cnode(1024, 1, 0, 0), cnode(1, 1, 0, -1), cnode(1, 1, 0, 17), cnode(1, 1, -1, 4), cnode(1, 1, 16, 4), cnode(1, 1, 1, 0)}
	for kind := range 12 {
		if kind != api.CNode {
			wrong = append(wrong, api.Cap{Kind: kind, Obj: 1}, api.Cap{Kind: kind, Obj: 1, Radix: 1})
		}
	}
	for _, more := range []api.Cap{{Rights: 1}, {Badge: 1}, {Device: true}} {
		more.Kind, more.Obj, more.Radix = api.CNode, 1, 1
		wrong = append(wrong, more)
	}
	for _, c := range wrong {
		for _, depth := range append([]int{-1, 0, 1, 16, 17}, farNumbers...) {
			refuses(t, s, asked{c, 0, depth}, api.ErrLookup)
		}
		looksUp(t, s, c, 0, null, noRef, api.ErrLookup)
	}
}

func TestN3Depth(t *testing.T) {
	s := New()
	add(t, s, 1, 1)
	for _, depth := range append([]int{-1, 0, 17, 32, 33}, farNumbers...) {
		refuses(t, s, asked{cnode(1, 1, 0, 0), 0, depth}, api.ErrDepth)
		// Ahead of the guard, and of a node that is not there.
		refuses(t, s, asked{cnode(1, 1, 1, 1), 0, depth}, api.ErrDepth)
		refuses(t, s, asked{cnode(2, 1, 0, 0), 0, depth}, api.ErrDepth)
	}
	for depth := 1; depth <= 16; depth++ {
		resolves(t, s, asked{cnode(1, 1, 0, 0), 1 << (depth - 1), depth}, ref(1, 1), depth-1)
		resolves(t, s, asked{cnode(1, 1, 0, 0), ^uint32(1 << (depth - 1)), depth}, ref(1, 0), depth-1)
	}
}

func TestN3Guards(t *testing.T) {
	s := New()
	add(t, s, 1, 1)
	add(t, s, 4, 4)
	for bits := 0; bits <= 16; bits++ {
		all := 1<<bits - 1
		for _, guard := range []int{0, all, all &^ 1, 0x5a5a & all, 1 << bits >> 1} {
			root := cnode(1, 1, guard, bits)
			for depth := 1; depth <= 16; depth++ {
				rest := depth - bits
				// What a longer address would begin with does not help a shorter one.
				if rest < 0 {
					refuses(t, s, asked{root, uint32(guard) & (1<<depth - 1), depth}, api.ErrGuard)
					refuses(t, s, asked{root, uint32(guard), depth}, api.ErrGuard)
					refuses(t, s, asked{root, uint32(guard >> -rest), depth}, api.ErrGuard)
					continue
				}
				word := uint32(guard) << rest
				for wrong := range bits {
					refuses(t, s, asked{root, word ^ 1<<(rest+wrong), depth}, api.ErrGuard)
				}
				if rest == 0 {
					refuses(t, s, asked{root, word, depth}, api.ErrDepth)
					continue
				}
				resolves(t, s, asked{root, word, depth}, ref(1, 0), rest-1)
				resolves(t, s, asked{root, word | 1<<(rest-1), depth}, ref(1, 1), rest-1)
				resolves(t, s, asked{root, word | 1<<(rest-1) | 0xffff0000<<(depth%16), depth}, ref(1, 1), rest-1)
			}
		}
	}
}

func TestN3Radices(t *testing.T) {
	s := New()
	for r := 1; r <= 4; r++ {
		add(t, s, 100+r, r)
		root, guarded := cnode(100+r, r, 0, 0), cnode(100+r, r, 2, 2)
		for depth := 1; depth < r; depth++ {
			refuses(t, s, asked{root, 0, depth}, api.ErrDepth)
			refuses(t, s, asked{guarded, 2 << depth, depth + 2}, api.ErrDepth)
			refuses(t, s, asked{guarded, 1 << depth, depth + 2}, api.ErrGuard)
			// Bits that are not there come ahead of a node that is not there.
			refuses(t, s, asked{cnode(200, r, 0, 0), 0, depth}, api.ErrDepth)
		}
		for i := range 1 << r {
			resolves(t, s, asked{root, uint32(i), r}, ref(100+r, i), 0)
			resolves(t, s, asked{root, uint32(i)<<3 | 5, r + 3}, ref(100+r, i), 3)
			resolves(t, s, asked{guarded, 2<<r | uint32(i), r + 2}, ref(100+r, i), 0)
		}
	}
}

func TestN3NoNode(t *testing.T) {
	s := New()
	add(t, s, 1, 2)
	for r := 1; r <= 4; r++ {
		refuses(t, s, asked{cnode(2, r, 0, 0), 0, 16}, api.ErrNode)
		refuses(t, s, asked{cnode(2, r, 1, 1), 0, 16}, api.ErrGuard)
		if r == 2 {
			resolves(t, s, asked{cnode(1, r, 0, 0), 0, 16}, ref(1, 0), 14)
			continue
		}
		refuses(t, s, asked{cnode(1, r, 0, 0), 0, 16}, api.ErrNode)
		refuses(t, s, asked{cnode(1, r, 0, 0), 0, r}, api.ErrNode)
	}
	// The same, behind a step that went well.
	put(t, s, ref(1, 0), cnode(2, 3, 0, 0))
	put(t, s, ref(1, 1), cnode(1, 3, 0, 0))
	put(t, s, ref(1, 2), cnode(2, 3, 1, 1))
	root := cnode(1, 2, 0, 0)
	refuses(t, s, asked{root, 0, 5}, api.ErrNode)
	refuses(t, s, asked{root, 0, 4}, api.ErrDepth)
	refuses(t, s, asked{root, 1 << 3, 5}, api.ErrNode)
	refuses(t, s, asked{root, 2 << 4, 6}, api.ErrGuard)
	refuses(t, s, asked{root, 2<<4 | 8, 6}, api.ErrNode)
	for i := range 4 {
		resolves(t, s, asked{root, uint32(i), 2}, ref(1, i), 0)
	}
	add(t, s, 2, 3)
	resolves(t, s, asked{root, 6, 5}, ref(2, 6), 0)
	answers(t, "DropNode", s.DropNode(2), api.OK)
	add(t, s, 2, 2)
	refuses(t, s, asked{root, 6, 5}, api.ErrNode)
}

// chain is three nodes behind one another, of the radices 1, 2 and 3, each cap with its guard; a Tcb's cap at the end.
func chain(t *testing.T) (*Space, api.Cap) {
	t.Helper()
	s := New()
	for i := 1; i <= 3; i++ {
		add(t, s, i, i)
	}
	put(t, s, ref(1, 1), cnode(2, 2, 1, 2))
	put(t, s, ref(2, 2), cnode(3, 3, 0, 1))
	put(t, s, ref(3, 5), tcb)
	return s, cnode(1, 1, 6, 3)
}

func TestN3Ways(t *testing.T) {
	s, root := chain(t)
	// 110 1, 01 10, 0 101, 1011
	const word = 0b1101_0110_0101_1011
	resolves(t, s, asked{root, word, 16}, ref(3, 5), 4)
	resolves(t, s, asked{root, word >> 3, 13}, ref(3, 5), 1)
	resolves(t, s, asked{root, word >> 4, 12}, ref(3, 5), 0)
	resolves(t, s, asked{root, word >> 8, 8}, ref(2, 2), 0)
	resolves(t, s, asked{root, word >> 12, 4}, ref(1, 1), 0)
	for depth, want := range map[int]api.Errno{1: api.ErrGuard, 2: api.ErrGuard, 3: api.ErrDepth, 5: api.ErrGuard, 6: api.ErrDepth, 7: api.ErrDepth, 9: api.ErrDepth, 10: api.ErrDepth, 11: api.ErrDepth} {
		refuses(t, s, asked{root, word >> (16 - depth), depth}, want)
	}
	// An end within the way: an empty slot, one with another cap.
	resolves(t, s, asked{root, 0b1100 << 12, 16}, ref(1, 0), 12)
	resolves(t, s, asked{root, 0b1101_0111 << 8, 16}, ref(2, 3), 8)
	put(t, s, ref(2, 3), tcb)
	resolves(t, s, asked{root, 0b1101_0111_0101, 12}, ref(2, 3), 4)
	refuses(t, s, asked{root, 0b1101_1110 << 8, 16}, api.ErrGuard)
	refuses(t, s, asked{root, 0b1101_0110_1 << 7, 16}, api.ErrGuard)
	// Bits above the depth are passed by.
	for above := 12; above < 32; above++ {
		resolves(t, s, asked{root, word>>4 | 1<<above, 12}, ref(3, 5), 0)
	}
	resolves(t, s, asked{root, 0xffff0000 | word, 16}, ref(3, 5), 4)
	looksUp(t, s, root, 0xffff0000|word, tcb, ref(3, 5), api.OK)
}

func TestN3NodeWithItsOwnCap(t *testing.T) {
	for r := 1; r <= 4; r++ {
		s := New()
		add(t, s, 8, r)
		root := cnode(8, r, 0, 0)
		put(t, s, ref(8, 0), root)
		for depth := 1; depth <= 16; depth++ {
			if depth%r != 0 {
				refuses(t, s, asked{root, 0, depth}, api.ErrDepth)
				continue
			}
			resolves(t, s, asked{root, 0, depth}, ref(8, 0), 0)
			resolves(t, s, asked{root, 1, depth}, ref(8, 1), 0)
		}
		if 16%r == 0 {
			looksUp(t, s, root, 0, root, ref(8, 0), api.OK)
			looksUp(t, s, root, 1, null, noRef, api.ErrLookup)
		} else {
			looksUp(t, s, root, 0, null, noRef, api.ErrDepth)
		}
	}
	// Guards on the way round count too: sixteen bits are five times 101 and one more.
	s := New()
	add(t, s, 9, 1)
	put(t, s, ref(9, 1), cnode(9, 1, 2, 2))
	refuses(t, s, asked{cnode(9, 1, 2, 2), 0b1011_0110_1101_1011, 16}, api.ErrGuard)
	resolves(t, s, asked{cnode(9, 1, 2, 2), 0b101_101_101_101_101, 15}, ref(9, 1), 0)
	resolves(t, s, asked{cnode(9, 1, 2, 2), 0b101_101_101_101_100, 15}, ref(9, 0), 0)
	resolves(t, s, asked{cnode(9, 1, 2, 2), 0b101_101_100_101_100, 15}, ref(9, 0), 6)
}

func TestN4Slot(t *testing.T) {
	s, root := chain(t)
	if at, e := s.Slot(root, 0b1101_0110_0101, 12); at != ref(3, 5) || e != api.OK {
		t.Error("Slot:", at, e)
	}
	// An empty slot and one with a node's cap are slots too.
	if at, e := s.Slot(root, 0b1100, 4); at != ref(1, 0) || e != api.OK {
		t.Error("Slot of an empty one:", at, e)
	}
	if at, e := s.Slot(root, 0b1101, 4); at != ref(1, 1) || e != api.OK {
		t.Error("Slot of a node's cap:", at, e)
	}
	for depth := 13; depth <= 16; depth++ {
		if at, e := s.Slot(root, 0b1101_0110_0101<<(depth-12), depth); at != noRef || e != api.ErrDepth {
			t.Error("Slot with bits left:", at, e)
		}
	}
	if at, e := s.Slot(root, 0b11000, 5); at != noRef || e != api.ErrDepth {
		t.Error("Slot with a bit left behind an empty one:", at, e)
	}
}

func TestN4Lookup(t *testing.T) {
	s, root := chain(t)
	for bits := range uint32(16) {
		looksUp(t, s, root, 0b1101_0110_0101_0000|bits, tcb, ref(3, 5), api.OK)
	}
	looksUp(t, s, root, 0b1101_0110_0100_0000, null, noRef, api.ErrLookup)
	looksUp(t, s, root, 0b1100_0000_0000_0000, null, noRef, api.ErrLookup)
	looksUp(t, s, root, 0b1110_0000_0000_0000, null, noRef, api.ErrGuard)
	looksUp(t, s, cnode(1, 2, 0, 0), 0, null, noRef, api.ErrNode)
	looksUp(t, s, tcb, 0, null, noRef, api.ErrLookup)
	// A node's cap at the way's very end is a cap like others.
	end := cnode(3, 3, 0, 0)
	put(t, s, ref(1, 0), end)
	looksUp(t, s, cnode(1, 1, 6, 15), 6<<1, end, ref(1, 0), api.OK)
	looksUp(t, s, cnode(1, 1, 6, 14), 6<<2, null, noRef, api.ErrDepth)
	looksUp(t, s, cnode(1, 1, 0, 16), 0, null, noRef, api.ErrDepth)
	put(t, s, ref(1, 0), null)
	looksUp(t, s, cnode(1, 1, 6, 15), 6<<1, null, noRef, api.ErrLookup)
	put(t, s, ref(1, 0), tcb)
	looksUp(t, s, cnode(1, 1, 6, 15), 6<<1, tcb, ref(1, 0), api.OK)
	looksUp(t, s, cnode(1, 1, 6, 8), 6<<8|255&^128, tcb, ref(1, 0), api.OK)
}

func TestN5OtherSlotsDoNotMatter(t *testing.T) {
	s, root := chain(t)
	const word = 0b1101_0110_0101_1011
	way := []api.Ref{ref(1, 1), ref(2, 2), ref(3, 5)}
	for node := 1; node <= 3; node++ {
		for i := range 1 << node {
			if slices.Contains(way, ref(node, i)) {
				continue
			}
			for _, c := range []api.Cap{tcb, cnode(1, 1, 0, 0), cnode(3, 3, 0, 0), cnode(999, 4, 9, 4), null} {
				put(t, s, ref(node, i), c)
				resolves(t, s, asked{root, word, 16}, ref(3, 5), 4)
				looksUp(t, s, root, word, tcb, ref(3, 5), api.OK)
			}
		}
	}
	add(t, s, 1000, 4)
	put(t, s, ref(1000, 15), cnode(1, 1, 6, 3))
	looksUp(t, s, root, word, tcb, ref(3, 5), api.OK)
}

func TestN5SixteenSlots(t *testing.T) {
	// Sixteen nodes of two slots each: the longest way there is.
	s := New()
	for i := range 16 {
		add(t, s, i, 1)
		put(t, s, ref(i, 1), cnode((i+1)%1024, 1, 0, 0))
	}
	root := cnode(0, 1, 0, 0)
	for depth := 1; depth <= 16; depth++ {
		resolves(t, s, asked{root, 1<<depth - 1, depth}, ref(depth-1, 1), 0)
		resolves(t, s, asked{root, 1<<depth - 2, depth}, ref(depth-1, 0), 0)
	}
	looksUp(t, s, root, 0xffff, cnode(16, 1, 0, 0), ref(15, 1), api.OK)
	looksUp(t, s, root, 0xfffe, null, noRef, api.ErrLookup)
	looksUp(t, s, root, 0xfeff, null, noRef, api.ErrLookup)
}

func TestR3ErrorsChangeNothing(t *testing.T) {
	s, root := example(t)
	for _, n := range farNumbers {
		s.AddNode(n, 1)
		s.AddNode(10, n)
		s.AddNode(11, n)
		s.DropNode(n)
		s.Put(ref(n, 1), tcb)
		s.Put(ref(10, n), tcb)
		s.Put(ref(10, 0), api.Cap{Kind: api.Tcb, Obj: n})
	}
	s.DropNode(10)
	s.AddNode(10, 1)
	full(t, s, ref(10, 1))
	radix(t, s, 10, 2)
	radix(t, s, 20, 1)
	radix(t, s, 11, 0)
	resolves(t, s, asked{root, 21, 5}, ref(10, 1), 0)
}

func TestR1AnyArguments(t *testing.T) {
	s, root := example(t)
	numbers := append([]int{0, 1, 2, 10, 16, 17, 20}, farNumbers...)
	for _, a := range numbers {
		for _, b := range numbers {
			s.Get(ref(a, b))
			for _, c := range []api.Cap{cnode(a, b, 0, 0), cnode(10, 2, a, b), cnode(10, b, 5, a), {Kind: a, Obj: b}, {Kind: api.CNode, Obj: 10, Radix: 2, Rights: a, Badge: b}} {
				s.Resolve(c, uint32(a), b)
				s.Slot(c, uint32(b), a)
				s.Lookup(c, uint32(a*31+b))
				s.Put(ref(99, b), c)
			}
			s.Resolve(root, uint32(a), b)
		}
		s.Radix(a)
	}
	full(t, s, ref(10, 1))
}
