package walk

import (
	"bytes"
	"math"
	"slices"
	"testing"

	"viceroy/api"
	"viceroy/pte"
	"viceroy/ram"
	"viceroy/tlb"
)

// farNumbers are no page, no right, no frame and no entry of anything;
// some would be one if they were cut to fewer bits, or multiplied with a frame's size.
var farNumbers = []int{1025, 2048, 4096, 1 << 16, 1<<16 + 1, 1 << 31, 1 << 32, 1<<32 + 1, 1<<32 + 5, 1 << 57, 1 << 58, 1<<58 + 1, 1 << 62, math.MaxInt - 1, math.MaxInt}

// lowNumbers are below all that there is; as First they say that a guest has no table.
var lowNumbers = []int{-1, -2, -3, -16, -32, -64, -1023, -1024, -1 << 32, -1 << 58, math.MinInt + 1, math.MinInt}

var (
	wants = []int{api.Read, api.Write, api.Exec}
	// wrongWants are no right: none, several at once, one that is of caps alone, and numbers that are nothing.
	wrongWants = slices.Concat([]int{0, 3, 5, 6, 7, 8, 9, 12, 15, 16}, farNumbers, lowNumbers)
	noPages    = slices.Concat([]int{1024}, farNumbers, lowNumbers)
)

var nothing = api.Fault{}

// size is the fault that has no place: what was asked for is nothing.
var size = api.Fault{Kind: api.FaultSize}

func fault(kind, stage, level, page int) api.Fault {
	return api.Fault{Kind: kind, Stage: stage, Level: level, Page: page}
}

func inWalk(f api.Fault) api.Fault {
	f.Walk = true
	return f
}

func table(frame int) api.Entry { return api.Entry{Valid: true, Frame: frame} }

func leaf(frame, rights int) api.Entry {
	return api.Entry{Valid: true, Leaf: true, Rights: rights, Frame: frame}
}

func memory(t *testing.T, frames int) *ram.Ram {
	t.Helper()
	r, e := ram.New(frames)
	if e != api.OK {
		t.Fatalf("New(%d): %v", frames, e)
	}
	return r
}

func put(t *testing.T, r *ram.Ram, tab, i int, x api.Entry) {
	t.Helper()
	if e := pte.Put(r, tab, i, x); e != api.OK {
		t.Fatalf("Put(%d, %d, %+v): %v", tab, i, x, e)
	}
}

// word lays a half word that need not be an entry's.
func word(t *testing.T, r *ram.Ram, tab, i, w int) {
	t.Helper()
	if e := r.Store(64*tab+2*i, 2, uint32(w)); e != api.OK {
		t.Fatalf("Store in the table %d: %v", tab, e)
	}
}

func image(t *testing.T, r *ram.Ram) []byte {
	t.Helper()
	var all []byte
	for n := range r.Frames() {
		b, e := r.Frame(n)
		if e != api.OK {
			t.Fatalf("Frame(%d): %v", n, e)
		}
		all = append(all, b...)
	}
	return all
}

// unchanged is told at a test's end what the memory was at its beginning.
func unchanged(t *testing.T, r *ram.Ram, was []byte) {
	t.Helper()
	if !bytes.Equal(image(t, r), was) {
		t.Error("a walk changed the memory")
	}
}

func single(t *testing.T, r *ram.Ram, root, page, frame, rights int, f api.Fault) {
	t.Helper()
	if gf, gr, g := Single(r, root, page); gf != frame || gr != rights || g != f {
		t.Errorf("Single(%d, %d) = %d, %d, %+v, want %d, %d, %+v", root, page, gf, gr, g, frame, rights, f)
	}
}

func nested(t *testing.T, r *ram.Ram, s api.Space, page, want, frame, rights int, f api.Fault) {
	t.Helper()
	if gf, gr, g := Nested(r, s, page, want); gf != frame || gr != rights || g != f {
		t.Errorf("Nested(%+v, %d, %d) = %d, %d, %+v, want %d, %d, %+v", s, page, want, gf, gr, g, frame, rights, f)
	}
}

func reach(t *testing.T, r *ram.Ram, b *tlb.Tlb, s api.Space, page, want, at, frame int, f api.Fault) {
	t.Helper()
	if gf, g := Reach(r, b, s, page, want, at); gf != frame || g != f {
		t.Errorf("Reach(%+v, %d, %d, %d) = %d, %+v, want %d, %+v", s, page, want, at, gf, g, frame, f)
	}
}

func counts(t *testing.T, b *tlb.Tlb, found, missed int) {
	t.Helper()
	if f, m := b.Counts(); f != found || m != missed {
		t.Errorf("Counts = %d, %d, want %d, %d", f, m, found, missed)
	}
}

func lines(t *testing.T, b *tlb.Tlb, want []api.Line) {
	t.Helper()
	if got := b.Lines(); !slices.Equal(got, want) {
		t.Errorf("Lines = %v, want %v", got, want)
	}
}

// one is a buffer's eight entries, of which the one at at has a line.
func one(at int, l api.Line) []api.Line {
	all := make([]api.Line, 8)
	all[at] = l
	return all
}

// examples is the memory of the chapter's section Examples.
func examples(t *testing.T) *ram.Ram {
	t.Helper()
	r := memory(t, 16)
	put(t, r, 1, 0, table(2))
	put(t, r, 2, 5, leaf(7, 3))
	put(t, r, 2, 3, leaf(4, 1))
	put(t, r, 4, 0, table(6))
	put(t, r, 2, 6, leaf(5, 1))
	put(t, r, 5, 9, leaf(5, 1))
	return r
}

func TestExamples(t *testing.T) {
	r := examples(t)
	was := image(t, r)
	single(t, r, 1, 5, 7, 3, nothing)
	single(t, r, 1, 40, 0, 0, fault(api.FaultMissing, 2, 0, 40))
	single(t, r, 1, 8, 0, 0, fault(api.FaultMissing, 2, 1, 8))
	plain, guest := api.Space{First: -1, Second: 1}, api.Space{First: 3, Second: 1}
	nested(t, r, plain, 5, api.Write, 7, 3, nothing)
	nested(t, r, plain, 5, api.Exec, 0, 0, fault(api.FaultRights, 2, 1, 5))
	nested(t, r, guest, 9, api.Read, 7, 1, nothing)
	nested(t, r, guest, 9, api.Write, 0, 0, fault(api.FaultRights, 1, 1, 9))
	nested(t, r, guest, 10, api.Read, 0, 0, fault(api.FaultMissing, 1, 1, 10))
	nested(t, r, api.Space{First: 8, Second: 1}, 9, api.Read, 0, 0, inWalk(fault(api.FaultMissing, 2, 1, 8)))
	unchanged(t, r, was)
}

// whole maps every page p to the frame that far tells, with the rights p modulo 8:
// the memory has 40 frames, the root is 1, the next tables are 2 to 33.
func whole(t *testing.T) *ram.Ram {
	t.Helper()
	r := memory(t, 40)
	for i := range 32 {
		put(t, r, 1, i, table(2+i))
		for k := range 32 {
			put(t, r, 2+i, k, leaf(far(32*i+k), (32*i+k)%8))
		}
	}
	return r
}

// far goes through all frames' numbers, those that the memory does not have too.
func far(page int) int { return (page*7 + 3) % 1024 }

func TestW1FindsEveryPage(t *testing.T) {
	r := whole(t)
	was := image(t, r)
	for p := range 1024 {
		single(t, r, 1, p, far(p), p%8, nothing)
	}
	unchanged(t, r, was)
}

func TestW1NoPage(t *testing.T) {
	r := whole(t)
	for _, p := range noPages {
		single(t, r, 1, p, 0, 0, size)
		// Which table there is does not matter then.
		for _, root := range []int{0, 39, 40, -1, math.MaxInt, math.MinInt} {
			single(t, r, root, p, 0, 0, size)
		}
	}
}

func TestW1RootNotThere(t *testing.T) {
	for _, frames := range []int{1, 2, 16, 1023, 1024} {
		r := memory(t, frames)
		for _, root := range slices.Concat([]int{frames, frames + 1, 1024}, farNumbers, lowNumbers) {
			for _, p := range []int{0, 1, 31, 32, 100, 1023} {
				single(t, r, root, p, 0, 0, fault(api.FaultSize, 2, 0, p))
			}
		}
	}
}

// The table of both levels is the memory's last frame, which is there.
func TestW1LastFrameIsATable(t *testing.T) {
	for _, frames := range []int{1, 2, 16, 1023, 1024} {
		r := memory(t, frames)
		last := frames - 1
		single(t, r, last, 100, 0, 0, fault(api.FaultMissing, 2, 0, 100))
		put(t, r, last, 3, table(last))
		single(t, r, last, 100, 0, 0, fault(api.FaultMissing, 2, 1, 100))
		put(t, r, last, 4, leaf(1023, 7))
		single(t, r, last, 100, 1023, 7, nothing)
	}
}

func TestW1NextTableNotThere(t *testing.T) {
	for _, frames := range []int{1, 2, 16, 1022, 1023} {
		r := memory(t, frames)
		for _, next := range []int{frames, 1023} {
			put(t, r, 0, 3, table(next))
			single(t, r, 0, 100, 0, 0, fault(api.FaultSize, 2, 1, 100))
			single(t, r, 0, 96, 0, 0, fault(api.FaultSize, 2, 1, 96))
		}
	}
}

// saysTable and saysFrame tell by its bits alone, whether a half word can be used at a level.
func saysTable(w int) bool { return w&1 == 1 && w&2 == 0 && w&28 == 0 && w&32 == 0 }
func saysFrame(w int) bool { return w&1 == 1 && w&2 == 2 && w&32 == 0 }

// All half words that there are, at each of the levels.
func TestW1EveryHalfWord(t *testing.T) {
	r := memory(t, 16)
	put(t, r, 1, 31, table(2))
	for w := range 1 << 16 {
		word(t, r, 2, 30, w)
		if saysFrame(w) {
			single(t, r, 1, 1022, w>>6, w>>2&7, nothing)
		} else {
			single(t, r, 1, 1022, 0, 0, fault(api.FaultMissing, 2, 1, 1022))
		}
		word(t, r, 3, 31, w)
		switch {
		case !saysTable(w):
			single(t, r, 3, 1022, 0, 0, fault(api.FaultMissing, 2, 0, 1022))
		case w>>6 >= 16:
			single(t, r, 3, 1022, 0, 0, fault(api.FaultSize, 2, 1, 1022))
		case w>>6 != 2:
			single(t, r, 3, 1022, 0, 0, fault(api.FaultMissing, 2, 1, 1022))
		}
	}
}

// A page's frame is told whether or not the memory has it, and with whatever rights: none too.
func TestW1WhatALeafSays(t *testing.T) {
	r := memory(t, 3)
	put(t, r, 1, 0, table(2))
	for _, frame := range []int{0, 1, 2, 3, 4, 1022, 1023} {
		for rights := range 8 {
			put(t, r, 2, 31, leaf(frame, rights))
			single(t, r, 1, 31, frame, rights, nothing)
		}
	}
}

// The ways in which an entry cannot be used, with words for the chapter's own list of them.
var unusable = []struct {
	why   string
	level int
	w     int
}{
	{"no entry: not Valid, but Leaf", 0, 2}, {"no entry: not Valid, but Leaf", 1, 2},
	{"no entry: not Valid, but a Frame", 0, 2 << 6}, {"no entry: not Valid, but a Frame", 1, 2 << 6},
	{"no entry: not Valid, but Rights", 0, 1 << 2}, {"no entry: not Valid, but Rights", 1, 1 << 2},
	{"no entry: the bit 5", 0, 2<<6 | 32 | 1}, {"no entry: the bit 5", 1, 2<<6 | 32 | 7<<2 | 3},
	{"no entry: a table with Rights", 0, 2<<6 | 1<<2 | 1}, {"no entry: a table with Rights", 1, 2<<6 | 7<<2 | 1},
	{"no entry: all bits", 0, 0xffff}, {"no entry: all bits", 1, 0xffff},
	{"not Valid", 0, 0}, {"not Valid", 1, 0},
	{"a Leaf", 0, 2<<6 | 7<<2 | 3}, {"a Leaf without rights", 0, 2<<6 | 3},
	{"a Leaf of a frame that is not there", 0, 1023<<6 | 7<<2 | 3},
	{"no Leaf", 1, 2<<6 | 1}, {"no Leaf, of a frame that is not there", 1, 1023<<6 | 1},
}

func TestW1UnusableEntries(t *testing.T) {
	for _, x := range unusable {
		for _, p := range []int{0, 31, 32, 500, 1023} {
			r := memory(t, 16)
			put(t, r, 1, p/32, table(2))
			put(t, r, 2, p%32, leaf(7, 7))
			single(t, r, 1, p, 7, 7, nothing)
			at := []int{p / 32, p % 32}[x.level]
			word(t, r, 1+x.level, at, x.w)
			t.Log(x.why)
			single(t, r, 1, p, 0, 0, fault(api.FaultMissing, 2, x.level, p))
		}
	}
}

func TestW2NoPageNoRight(t *testing.T) {
	r := whole(t)
	spaces := []api.Space{
		{First: -1, Second: 1}, {First: 3, Second: 1}, {First: 0, Second: 1},
		{First: -1, Second: 40}, {First: 3, Second: -1}, {First: 1024, Second: 1},
		{First: math.MaxInt, Second: math.MinInt}, {First: math.MinInt, Second: math.MaxInt},
	}
	for _, s := range spaces {
		for _, p := range noPages {
			for _, want := range slices.Concat(wants, wrongWants) {
				nested(t, r, s, p, want, 0, 0, size)
			}
		}
		for _, p := range []int{0, 7, 15, 1023} {
			for _, want := range wrongWants {
				nested(t, r, s, p, want, 0, 0, size)
			}
		}
	}
}

func TestW2PlainEveryPage(t *testing.T) {
	r := whole(t)
	was := image(t, r)
	for _, first := range lowNumbers {
		s := api.Space{First: first, Second: 1}
		for p := range 1024 {
			for _, want := range wants {
				if p%8&want == 0 {
					nested(t, r, s, p, want, 0, 0, fault(api.FaultRights, 2, 1, p))
				} else {
					nested(t, r, s, p, want, far(p), p%8, nothing)
				}
			}
		}
	}
	unchanged(t, r, was)
}

func TestW2PlainFaults(t *testing.T) {
	r := memory(t, 16)
	put(t, r, 15, 0, table(14))
	put(t, r, 15, 1, table(16))
	put(t, r, 15, 2, leaf(14, 7))
	put(t, r, 14, 0, leaf(3, 0))
	put(t, r, 14, 1, table(14))
	for _, want := range wants {
		for _, second := range slices.Concat([]int{16, 17, 1023, 1024}, farNumbers, lowNumbers) {
			nested(t, r, api.Space{First: -1, Second: second}, 0, want, 0, 0, fault(api.FaultSize, 2, 0, 0))
			nested(t, r, api.Space{First: -1, Second: second}, 1023, want, 0, 0, fault(api.FaultSize, 2, 0, 1023))
		}
		s := api.Space{First: -1, Second: 15}
		nested(t, r, s, 0, want, 0, 0, fault(api.FaultRights, 2, 1, 0))
		nested(t, r, s, 1, want, 0, 0, fault(api.FaultMissing, 2, 1, 1))
		nested(t, r, s, 2, want, 0, 0, fault(api.FaultMissing, 2, 1, 2))
		nested(t, r, s, 33, want, 0, 0, fault(api.FaultSize, 2, 1, 33))
		nested(t, r, s, 64, want, 0, 0, fault(api.FaultMissing, 2, 0, 64))
		nested(t, r, s, 1023, want, 0, 0, fault(api.FaultMissing, 2, 0, 1023))
	}
}

// The numbers of a space do not matter to its tables.
func TestW2VmidAndAsidDoNotMatter(t *testing.T) {
	r := examples(t)
	for _, n := range slices.Concat([]int{0, 1, 15, 16}, farNumbers, lowNumbers) {
		nested(t, r, api.Space{Vmid: n, Asid: 3, First: 3, Second: 1}, 9, api.Read, 7, 1, nothing)
		nested(t, r, api.Space{Vmid: 3, Asid: n, First: -1, Second: 1}, 5, api.Read, 7, 3, nothing)
	}
}

// The guest of these tests: of the stage 2 the root is the frame 1, the next table the frame 2 (pages 0 to 31);
// its own root is the page 10, in the frame 3, its next table the page 11, in the frame 4;
// its page p has there the page 12, which is the frame 5. All with all rights.
func guestAt(t *testing.T, p int) (*ram.Ram, api.Space) {
	t.Helper()
	r := memory(t, 16)
	put(t, r, 1, 0, table(2))
	put(t, r, 2, 10, leaf(3, 7))
	put(t, r, 2, 11, leaf(4, 7))
	put(t, r, 2, 12, leaf(5, 7))
	put(t, r, 3, p/32, table(11))
	put(t, r, 4, p%32, leaf(12, 7))
	return r, api.Space{Vmid: 1, First: 10, Second: 1}
}

func TestW2GuestFinds(t *testing.T) {
	for p := range 1024 {
		r, s := guestAt(t, p)
		was := image(t, r)
		for _, want := range wants {
			nested(t, r, s, p, want, 5, 7, nothing)
			for _, other := range []int{p ^ 1, p ^ 16} {
				nested(t, r, s, other, want, 0, 0, fault(api.FaultMissing, 1, 1, other))
			}
			for _, other := range []int{p ^ 32, p ^ 512} {
				nested(t, r, s, other, want, 0, 0, fault(api.FaultMissing, 1, 0, other))
			}
		}
		unchanged(t, r, was)
	}
}

// The page 0 is a guest's table as any other: First 0 is none of those that say that there is none.
func TestW2FirstZero(t *testing.T) {
	r, s := guestAt(t, 9)
	s.First = 0
	nested(t, r, s, 9, api.Read, 0, 0, inWalk(fault(api.FaultMissing, 2, 1, 0)))
	put(t, r, 2, 0, leaf(3, 1))
	nested(t, r, s, 9, api.Read, 5, 7, nothing)
	s.First = -1
	nested(t, r, s, 9, api.Read, 0, 0, fault(api.FaultMissing, 2, 1, 9))
	nested(t, r, s, 0, api.Read, 3, 1, nothing)
}

func TestW2FirstIsNoPage(t *testing.T) {
	r, s := guestAt(t, 9)
	put(t, r, 1, 31, table(2))
	s.First = 1023
	nested(t, r, s, 9, api.Read, 0, 0, inWalk(fault(api.FaultMissing, 2, 1, 1023)))
	put(t, r, 2, 31, leaf(3, 1))
	nested(t, r, s, 9, api.Read, 5, 7, nothing)
	for _, first := range slices.Concat([]int{1024}, farNumbers) {
		for _, second := range []int{1, 16, -1, math.MaxInt, math.MinInt} {
			for _, want := range wants {
				nested(t, r, api.Space{First: first, Second: second}, 9, want, 0, 0, api.Fault{Kind: api.FaultSize, Walk: true})
			}
		}
	}
}

// The other table is not there at all: it is the guest's root that is not found.
func TestW2GuestSecondNotThere(t *testing.T) {
	r, s := guestAt(t, 9)
	for _, second := range slices.Concat([]int{16, 17, 1023, 1024}, farNumbers, lowNumbers) {
		s.Second = second
		nested(t, r, s, 9, api.Read, 0, 0, inWalk(fault(api.FaultSize, 2, 0, 10)))
	}
}

// The other table cannot be used for the page 10, the guest's root; for 11, its next table; for 12, what its page 9 is.
func TestW2OtherTableFaults(t *testing.T) {
	for _, x := range unusable {
		r, s := guestAt(t, 9)
		if x.level == 0 {
			word(t, r, 1, 0, x.w)
			t.Log(x.why)
			nested(t, r, s, 9, api.Read, 0, 0, inWalk(fault(api.FaultMissing, 2, 0, 10)))
			continue
		}
		for _, g := range []int{10, 11, 12} {
			r, s := guestAt(t, 9)
			word(t, r, 2, g, x.w)
			f := fault(api.FaultMissing, 2, 1, g)
			f.Walk = g != 12
			t.Log(x.why, g)
			nested(t, r, s, 9, api.Read, 0, 0, f)
			nested(t, r, s, 9, api.Exec, 0, 0, f)
		}
	}
}

// The same at the other table's level 0, for each of the guest's three pages: they lie under entries of their own.
func TestW2OtherTableFaultsAtLevelZero(t *testing.T) {
	spread := func() (*ram.Ram, api.Space) {
		r := memory(t, 16)
		for i, frame := range []int{3, 4, 5} {
			put(t, r, 1, i, table(7+i))
			put(t, r, 7+i, 1, leaf(frame, 7))
		}
		put(t, r, 3, 0, table(33))
		put(t, r, 4, 9, leaf(65, 7))
		return r, api.Space{First: 1, Second: 1}
	}
	r, s := spread()
	nested(t, r, s, 9, api.Write, 5, 7, nothing)
	for i, g := range []int{1, 33, 65} {
		for _, x := range unusable {
			if x.level != 0 {
				continue
			}
			r, s := spread()
			word(t, r, 1, i, x.w)
			f := fault(api.FaultMissing, 2, 0, g)
			f.Walk = i < 2
			nested(t, r, s, 9, api.Write, 0, 0, f)
		}
		for _, next := range []int{16, 1023} {
			r, s := spread()
			put(t, r, 1, i, table(next))
			f := fault(api.FaultSize, 2, 1, g)
			f.Walk = i < 2
			nested(t, r, s, 9, api.Write, 0, 0, f)
		}
		r, s := spread()
		put(t, r, 1, i, table(15)) // the memory's last frame is there, and empty
		f := fault(api.FaultMissing, 2, 1, g)
		f.Walk = i < 2
		nested(t, r, s, 9, api.Write, 0, 0, f)
	}
}

// A guest's tables are read, whatever the access wants: they need Read, and nothing else.
func TestW2TablesNeedRead(t *testing.T) {
	for rights := range 8 {
		for i, g := range []int{10, 11} {
			for _, want := range wants {
				r, s := guestAt(t, 9)
				put(t, r, 2, g, leaf(3+i, rights))
				if rights&api.Read == 0 {
					nested(t, r, s, 9, want, 0, 0, inWalk(fault(api.FaultRights, 2, 1, g)))
				} else {
					nested(t, r, s, 9, want, 5, 7, nothing)
				}
			}
		}
	}
}

// Frames that the other table says for a guest's tables, and that the memory does not have.
func TestW2GuestTableNotThere(t *testing.T) {
	for _, p := range []int{0, 9, 1023} {
		for _, frame := range []int{16, 17, 1022, 1023} {
			for level, g := range []int{10, 11} {
				for _, want := range wants {
					r, s := guestAt(t, p)
					put(t, r, 2, g, leaf(frame, 7))
					nested(t, r, s, p, want, 0, 0, fault(api.FaultSize, 1, level, p))
				}
			}
		}
	}
}

// The memory's last frame is a guest's table as any other, at both levels.
func TestW2GuestTableInTheLastFrame(t *testing.T) {
	r, s := guestAt(t, 9)
	put(t, r, 2, 10, leaf(15, 1))
	nested(t, r, s, 9, api.Read, 0, 0, fault(api.FaultMissing, 1, 0, 9))
	put(t, r, 15, 0, table(11))
	nested(t, r, s, 9, api.Read, 5, 7, nothing)
	put(t, r, 2, 11, leaf(15, 1))
	nested(t, r, s, 9, api.Read, 0, 0, fault(api.FaultMissing, 1, 1, 9))
	put(t, r, 15, 9, leaf(12, 7))
	nested(t, r, s, 9, api.Read, 5, 7, nothing)
}

func TestW2UnusableGuestEntries(t *testing.T) {
	for _, x := range unusable {
		for _, p := range []int{0, 31, 32, 500, 1023} {
			for _, want := range wants {
				r, s := guestAt(t, p)
				at := []int{p / 32, p % 32}[x.level]
				word(t, r, 3+x.level, at, x.w)
				t.Log(x.why)
				nested(t, r, s, p, want, 0, 0, fault(api.FaultMissing, 1, x.level, p))
			}
		}
	}
}

// All half words that there are, at each of the levels of the guest's tables.
func TestW2EveryHalfWord(t *testing.T) {
	r, s := guestAt(t, 9)
	at0, s0 := guestAt(t, 9)
	pages := map[int]int{10: 3, 11: 4, 12: 5}
	for w := range 1 << 16 {
		word(t, r, 4, 9, w)
		frame, there := pages[w>>6]
		switch {
		case !saysFrame(w):
			nested(t, r, s, 9, api.Write, 0, 0, fault(api.FaultMissing, 1, 1, 9))
		case w>>2&api.Write == 0:
			nested(t, r, s, 9, api.Write, 0, 0, fault(api.FaultRights, 1, 1, 9))
		case there:
			nested(t, r, s, 9, api.Write, frame, w>>2&7, nothing)
		default:
			nested(t, r, s, 9, api.Write, 0, 0, fault(api.FaultMissing, 2, min(1, 31/max(1, w>>6)), w>>6))
		}
		word(t, at0, 3, 0, w)
		frame, there = pages[w>>6]
		switch {
		case !saysTable(w):
			nested(t, at0, s0, 9, api.Write, 0, 0, fault(api.FaultMissing, 1, 0, 9))
		case !there:
			nested(t, at0, s0, 9, api.Write, 0, 0, inWalk(fault(api.FaultMissing, 2, min(1, 31/max(1, w>>6)), w>>6)))
		case frame == 4:
			nested(t, at0, s0, 9, api.Write, 5, 7, nothing)
		default:
			nested(t, at0, s0, 9, api.Write, 0, 0, fault(api.FaultMissing, 1, 1, 9))
		}
	}
}

// What a guest gets is what both tables give; the guest's own rights are asked first.
func TestW2RightsInBoth(t *testing.T) {
	for own := range 8 {
		for other := range 8 {
			r, s := guestAt(t, 9)
			put(t, r, 4, 9, leaf(12, own))
			put(t, r, 2, 12, leaf(5, other))
			for _, want := range wants {
				switch {
				case own&want == 0:
					nested(t, r, s, 9, want, 0, 0, fault(api.FaultRights, 1, 1, 9))
				case other&want == 0:
					nested(t, r, s, 9, want, 0, 0, fault(api.FaultRights, 2, 1, 12))
				default:
					nested(t, r, s, 9, want, 5, own&other, nothing)
				}
			}
		}
	}
}

// A frame is told as the other table says it, whether or not the memory has it.
func TestW2FrameNotThere(t *testing.T) {
	for _, frame := range []int{0, 15, 16, 1023} {
		r, s := guestAt(t, 9)
		put(t, r, 2, 12, leaf(frame, 6))
		nested(t, r, s, 9, api.Exec, frame, 6, nothing)
		s.First = -1
		nested(t, r, s, 12, api.Exec, frame, 6, nothing)
	}
}

// Each step below breaks what the walk comes to just before what the step above broke: its fault is the one that is told.
func TestW2FirstFaultIsTold(t *testing.T) {
	r, s := guestAt(t, 9)
	steps := []struct {
		what  string
		spoil func()
		f     api.Fault
	}{
		{"the page's frame has no right", func() { put(t, r, 2, 12, leaf(5, api.Write)) }, fault(api.FaultRights, 2, 1, 12)},
		{"the page is not found", func() { put(t, r, 2, 12, api.Entry{}) }, fault(api.FaultMissing, 2, 1, 12)},
		{"the guest gives no right", func() { put(t, r, 4, 9, leaf(12, api.Write)) }, fault(api.FaultRights, 1, 1, 9)},
		{"the guest's entry is none", func() { word(t, r, 4, 9, 2) }, fault(api.FaultMissing, 1, 1, 9)},
		{"the guest's next table is not there", func() { put(t, r, 2, 11, leaf(16, 7)) }, fault(api.FaultSize, 1, 1, 9)},
		{"it may not be read", func() { put(t, r, 2, 11, leaf(16, 6)) }, inWalk(fault(api.FaultRights, 2, 1, 11))},
		{"it is not found", func() { put(t, r, 2, 11, api.Entry{}) }, inWalk(fault(api.FaultMissing, 2, 1, 11))},
		{"the guest's root says none", func() { put(t, r, 3, 0, api.Entry{}) }, fault(api.FaultMissing, 1, 0, 9)},
		{"the root is not there", func() { put(t, r, 2, 10, leaf(16, 7)) }, fault(api.FaultSize, 1, 0, 9)},
		{"it may not be read", func() { put(t, r, 2, 10, leaf(16, 6)) }, inWalk(fault(api.FaultRights, 2, 1, 10))},
		{"it is not found", func() { word(t, r, 2, 10, 2) }, inWalk(fault(api.FaultMissing, 2, 1, 10))},
		{"the other next table is not there", func() { put(t, r, 1, 0, table(16)) }, inWalk(fault(api.FaultSize, 2, 1, 10))},
		{"the other root says none", func() { word(t, r, 1, 0, 3) }, inWalk(fault(api.FaultMissing, 2, 0, 10))},
		{"it is not there", func() { s.Second = 16 }, inWalk(fault(api.FaultSize, 2, 0, 10))},
		{"the guest's root is no page", func() { s.First = 1024 }, inWalk(size)},
	}
	nested(t, r, s, 9, api.Read, 5, 7, nothing)
	for _, x := range steps {
		x.spoil()
		t.Log(x.what)
		nested(t, r, s, 9, api.Read, 0, 0, x.f)
	}
	nested(t, r, s, 1024, api.Read, 0, 0, size)
	nested(t, r, s, 9, 0, 0, 0, size)
}

// A guest's table may name itself: as its next table, and as the page that is looked for.
func TestW2TableOfItself(t *testing.T) {
	r, s := guestAt(t, 9)
	put(t, r, 3, 0, table(10))
	put(t, r, 3, 1, leaf(10, 3))
	nested(t, r, s, 1, api.Write, 3, 3, nothing)
	nested(t, r, s, 0, api.Write, 0, 0, fault(api.FaultMissing, 1, 1, 0))
	nested(t, r, s, 32, api.Write, 0, 0, fault(api.FaultMissing, 1, 0, 32))
}

func TestW3FillsAndFinds(t *testing.T) {
	for at := range 8 {
		r, s := guestAt(t, 9)
		put(t, r, 4, 9, leaf(12, 5))
		put(t, r, 2, 12, leaf(5, 3))
		s.Vmid, s.Asid = 15, 7
		was := image(t, r)
		b := tlb.New()
		reach(t, r, b, s, 9, api.Read, at, 5, nothing)
		line := api.Line{Vmid: 15, Asid: 7, Page: 9, Frame: 5, Rights: 1}
		lines(t, b, one(at, line))
		counts(t, b, 0, 1)
		// It is found now, wherever the entry is, and is not filled again elsewhere.
		for other := range 8 {
			reach(t, r, b, s, 9, api.Read, other, 5, nothing)
			lines(t, b, one(at, line))
			counts(t, b, 1+other, 1)
		}
		unchanged(t, r, was)
	}
}

// What is remembered is told, though the tables say otherwise by now.
func TestW3RemembersOverTables(t *testing.T) {
	r, s := guestAt(t, 9)
	b := tlb.New()
	reach(t, r, b, s, 9, api.Read, 0, 5, nothing)
	for n := range 16 {
		r.Clear(n)
	}
	for _, want := range wants {
		reach(t, r, b, s, 9, want, 1, 5, nothing)
	}
	lines(t, b, one(0, api.Line{Vmid: 1, Page: 9, Frame: 5, Rights: 7}))
	counts(t, b, 3, 1)
	b.FlushAll()
	reach(t, r, b, s, 9, api.Read, 1, 0, inWalk(fault(api.FaultMissing, 2, 0, 10)))
	lines(t, b, make([]api.Line, 8))
	counts(t, b, 3, 2)
}

// A line is of a space's number, of an address space's number, and of a page: others' are walked.
func TestW3OthersLinesAreNotTaken(t *testing.T) {
	r, s := guestAt(t, 9)
	b := tlb.New()
	s.Vmid, s.Asid = 2, 2
	others := []api.Line{
		{Vmid: 1, Asid: 2, Page: 9, Frame: 8, Rights: 7},
		{Vmid: 2, Asid: 1, Page: 9, Frame: 8, Rights: 7},
		{Vmid: 2, Asid: 2, Page: 8, Frame: 8, Rights: 7},
		{Vmid: 9, Asid: 2, Page: 2, Frame: 8, Rights: 7},
	}
	for at, l := range others {
		if e := b.Fill(at, l); e != api.OK {
			t.Fatal(e)
		}
	}
	reach(t, r, b, s, 9, api.Read, 7, 5, nothing)
	counts(t, b, 0, 1)
	mine := api.Line{Vmid: 2, Asid: 2, Page: 9, Frame: 5, Rights: 7}
	lines(t, b, append(slices.Clone(others), api.Line{}, api.Line{}, api.Line{}, mine))
	// Filled over another's line, that one is forgotten.
	b.Evict(7)
	reach(t, r, b, s, 9, api.Read, 0, 5, nothing)
	lines(t, b, append([]api.Line{mine}, append(slices.Clone(others[1:]), make([]api.Line, 4)...)...))
}

// A line without the right that is wanted is walked anew, and filled again with what was found.
func TestW3LineWithoutTheRight(t *testing.T) {
	for rights := range 8 {
		for _, want := range wants {
			for _, at := range []int{2, 5} {
				r, s := guestAt(t, 9)
				b := tlb.New()
				old := api.Line{Vmid: 1, Page: 9, Frame: 8, Rights: rights}
				if e := b.Fill(2, old); e != api.OK {
					t.Fatal(e)
				}
				if rights&want != 0 {
					reach(t, r, b, s, 9, want, at, 8, nothing)
					lines(t, b, one(2, old))
				} else {
					reach(t, r, b, s, 9, want, at, 5, nothing)
					lines(t, b, one(at, api.Line{Vmid: 1, Page: 9, Frame: 5, Rights: 7}))
				}
				counts(t, b, 1, 0)
			}
		}
	}
}

// It is walked anew there too, if the tables do not give the right: the line stays as it was.
func TestW3FaultLeavesTheBuffer(t *testing.T) {
	r, s := guestAt(t, 9)
	put(t, r, 4, 9, leaf(12, api.Read|api.Exec))
	put(t, r, 2, 12, leaf(5, api.Read|api.Write))
	b := tlb.New()
	reach(t, r, b, s, 9, api.Read, 3, 5, nothing)
	for at := range 8 {
		if at != 3 {
			b.Fill(at, api.Line{Vmid: 2, Asid: at, Page: at, Frame: at, Rights: 7})
		}
	}
	was := b.Lines()
	faults := []struct {
		s          api.Space
		page, want int
		f          api.Fault
	}{
		{s, 9, api.Write, fault(api.FaultRights, 1, 1, 9)},
		{s, 9, api.Exec, fault(api.FaultRights, 2, 1, 12)},
		{s, 10, api.Read, fault(api.FaultMissing, 1, 1, 10)},
		{s, 99, api.Read, fault(api.FaultMissing, 1, 0, 99)},
		{s, 9, 0, size},
		{s, 9, 3, size},
		{s, -1, api.Read, size},
		{api.Space{Vmid: 1, Asid: 1, First: 11, Second: 16}, 9, api.Read, inWalk(fault(api.FaultSize, 2, 0, 11))},
		{api.Space{Vmid: 1, Asid: 1, First: 13, Second: 1}, 9, api.Read, inWalk(fault(api.FaultMissing, 2, 1, 13))},
		{api.Space{Vmid: 1, Asid: 1, First: -1, Second: 1}, 9, api.Read, fault(api.FaultMissing, 2, 1, 9)},
		{api.Space{Vmid: 1, Asid: 1, First: 1024, Second: 1}, 9, api.Read, inWalk(size)},
	}
	for _, x := range faults {
		for _, at := range []int{0, 3, 7, 8, -1} {
			reach(t, r, b, x.s, x.page, x.want, at, 0, x.f)
			lines(t, b, was)
		}
	}
	// Of the page 9 of this space there is a line: four of the eleven are found, and do not help.
	counts(t, b, 4*5, 1+7*5)
}

// The buffer is asked once, always: also where what is asked for is nothing.
func TestW3AskedOnceAlways(t *testing.T) {
	r, s := guestAt(t, 9)
	b := tlb.New()
	reach(t, r, b, s, 9, api.Read, 0, 5, nothing)
	found, missed := b.Counts()
	for _, want := range wrongWants {
		reach(t, r, b, s, 9, want, 1, 0, size)
		found++
		counts(t, b, found, missed)
		reach(t, r, b, s, 8, want, 1, 0, size)
		missed++
		counts(t, b, found, missed)
	}
	for _, p := range noPages {
		for _, want := range []int{api.Read, 0, 8, math.MinInt} {
			reach(t, r, b, s, p, want, 1, 0, size)
			missed++
			counts(t, b, found, missed)
		}
	}
	lines(t, b, one(0, api.Line{Vmid: 1, Page: 9, Frame: 5, Rights: 7}))
}

// A Fill with an error leaves the buffer as it was, and what was found is told.
func TestW3FillsErrorsDoNotMatter(t *testing.T) {
	r, s := guestAt(t, 9)
	b := tlb.New()
	missed := 0
	for _, at := range slices.Concat([]int{8, 9}, farNumbers, lowNumbers) {
		reach(t, r, b, s, 9, api.Read, at, 5, nothing)
		missed++
	}
	for _, n := range slices.Concat([]int{16, 17}, farNumbers, lowNumbers) {
		wrongVmid, wrongAsid := s, s
		wrongVmid.Vmid, wrongAsid.Asid = n, n
		reach(t, r, b, wrongVmid, 9, api.Write, 0, 5, nothing)
		reach(t, r, b, wrongAsid, 9, api.Exec, 7, 5, nothing)
		missed += 2
	}
	s.Vmid = 0
	reach(t, r, b, s, 9, api.Read, 0, 5, nothing)
	lines(t, b, make([]api.Line, 8))
	counts(t, b, 0, missed+1)
}

// A line without the right stays, if what was found anew cannot be filled.
func TestW3WrongEntryLeavesTheOldLine(t *testing.T) {
	r, s := guestAt(t, 9)
	b := tlb.New()
	old := api.Line{Vmid: 1, Page: 9, Frame: 8, Rights: api.Read}
	b.Fill(2, old)
	for _, at := range []int{8, -1, math.MaxInt, math.MinInt} {
		reach(t, r, b, s, 9, api.Write, at, 5, nothing)
		lines(t, b, one(2, old))
	}
	counts(t, b, 4, 0)
}

func TestW3PlainSpace(t *testing.T) {
	r := whole(t)
	b := tlb.New()
	s := api.Space{Vmid: 3, Asid: 0, First: -1, Second: 1}
	for _, p := range []int{7, 15, 1023} {
		at := p % 5
		reach(t, r, b, s, p, api.Exec, at, far(p), nothing)
		if l := b.Lines()[at]; l != (api.Line{Vmid: 3, Page: p, Frame: far(p), Rights: 7}) {
			t.Errorf("the page %d has the line %+v", p, l)
		}
	}
	for _, p := range []int{0, 8, 1016} {
		reach(t, r, b, s, p, api.Read, 6, 0, fault(api.FaultRights, 2, 1, p))
	}
	counts(t, b, 0, 6)
}

// source tells numbers that look like none: the same ones each time.
type source uint64

func (s *source) below(n int) int {
	*s = *s*6364136223846793005 + 1442695040888963407
	return int(uint64(*s) >> 33 % uint64(n))
}

// sprinkle fills a small memory with half words, most of which are entries of frames and pages that are there.
func sprinkle(t *testing.T, r *ram.Ram, s *source) {
	t.Helper()
	for n := range r.Frames() {
		for i := range 32 {
			w := s.below(20)<<6 | s.below(8)<<2 | 3
			switch s.below(16) {
			case 0:
				w = 0
			case 1:
				w = s.below(1 << 16)
			case 2, 3, 4, 5, 6, 7:
				w = s.below(18)<<6 | 1
			}
			word(t, r, n, i, w)
		}
	}
}

// half reads a half word by the memory's bytes: the tests' own reading of a table shares nothing with package pte.
func half(all []byte, frame, i int) int {
	return int(all[64*frame+2*i]) | int(all[64*frame+2*i+1])<<8
}

// modelSingle is W1, written out step by step.
func modelSingle(all []byte, root, page int) (int, int, api.Fault) {
	frames := len(all) / 64
	if page < 0 || page > 1023 {
		return 0, 0, size
	}
	if root < 0 || root >= frames {
		return 0, 0, fault(api.FaultSize, 2, 0, page)
	}
	w := half(all, root, page>>5)
	if !saysTable(w) {
		return 0, 0, fault(api.FaultMissing, 2, 0, page)
	}
	if w>>6 >= frames {
		return 0, 0, fault(api.FaultSize, 2, 1, page)
	}
	w = half(all, w>>6, page&31)
	if !saysFrame(w) {
		return 0, 0, fault(api.FaultMissing, 2, 1, page)
	}
	return w >> 6, w >> 2 & 7, nothing
}

// modelTable is how W2 reads a half word of a guest's table.
func modelTable(all []byte, s api.Space, g, level, page int) (int, api.Fault) {
	n, rights, f := modelSingle(all, s.Second, g)
	if f != nothing {
		return 0, inWalk(f)
	}
	if rights%2 == 0 {
		return 0, inWalk(fault(api.FaultRights, 2, 1, g))
	}
	if n >= len(all)/64 {
		return 0, fault(api.FaultSize, 1, level, page)
	}
	if level == 0 {
		if w := half(all, n, page>>5); saysTable(w) {
			return w, nothing
		}
	} else if w := half(all, n, page&31); saysFrame(w) {
		return w, nothing
	}
	return 0, fault(api.FaultMissing, 1, level, page)
}

func modelNested(all []byte, s api.Space, page, want int) (int, int, api.Fault) {
	if page < 0 || page > 1023 || want != 1 && want != 2 && want != 4 {
		return 0, 0, size
	}
	own, at := 7, page
	if s.First >= 0 {
		up, f := modelTable(all, s, s.First, 0, page)
		if f != nothing {
			return 0, 0, f
		}
		x, f := modelTable(all, s, up>>6, 1, page)
		if f != nothing {
			return 0, 0, f
		}
		own, at = x>>2&7, x>>6
	}
	if own&want == 0 {
		return 0, 0, fault(api.FaultRights, 1, 1, page)
	}
	n, rights, f := modelSingle(all, s.Second, at)
	if f != nothing {
		return 0, 0, f
	}
	if rights&want == 0 {
		return 0, 0, fault(api.FaultRights, 2, 1, at)
	}
	return n, rights & own, nothing
}

// Walks through tables of all sorts, against the model. That each kind of answer comes is asked for too.
func TestW2AgainstTheModel(t *testing.T) {
	var s source = 1
	seen := map[api.Fault]int{}
	for range 60 {
		r := memory(t, 16)
		sprinkle(t, r, &s)
		all := image(t, r)
		for range 2000 {
			sp := api.Space{First: s.below(40) - 6, Second: s.below(18) - 1}
			page, want := s.below(1024), 1<<s.below(3)
			if s.below(50) == 0 {
				page, want = s.below(1200)-80, s.below(10)-1
			}
			frame, rights, f := modelSingle(all, sp.Second, page)
			single(t, r, sp.Second, page, frame, rights, f)
			frame, rights, f = modelNested(all, sp, page, want)
			nested(t, r, sp, page, want, frame, rights, f)
			f.Page = 0
			seen[f]++
		}
		unchanged(t, r, all)
	}
	kinds := []api.Fault{nothing, size}
	for level := range 2 {
		for kind := api.FaultMissing; kind <= api.FaultSize; kind++ {
			if level == 0 && kind == api.FaultRights {
				continue
			}
			other := fault(kind, 2, level, 0)
			kinds = append(kinds, fault(kind, 1, level, 0), other, inWalk(other))
		}
	}
	for _, f := range kinds {
		if seen[f] == 0 {
			t.Errorf("the run never came to %+v", f)
		}
	}
}

// settle fills a memory of 16 frames so that most pages are found: 0 to 3 are roots of the other stage, 4 to 7 their next tables,
// and what these say, 8 to 15, are guests' roots and next tables, and their pages.
func settle(t *testing.T, r *ram.Ram, s *source) {
	t.Helper()
	for n := range 16 {
		for i := range 32 {
			w := (4+s.below(4))<<6 | 1
			switch {
			case s.below(12) == 0:
				w = s.below(1 << 16)
			case n >= 12:
				w = s.below(1024)<<6 | s.below(8)<<2 | 3
			case n >= 8:
				w = s.below(1024)<<6 | 1
			case n >= 4:
				w = (8+s.below(8))<<6 | s.below(8)<<2 | 3
			}
			word(t, r, n, i, w)
		}
	}
}

// W4: a space's numbers have the same tables all along: whatever is remembered, evicted and flushed, Reach tells what Nested does.
func TestW4TheBufferIsNotSeen(t *testing.T) {
	var s source = 2
	found := 0
	for range 40 {
		r := memory(t, 16)
		settle(t, r, &s)
		all := image(t, r)
		b := tlb.New()
		var spaces []api.Space
		for n := range 6 {
			spaces = append(spaces, api.Space{Vmid: n / 2, Asid: n % 2, First: s.below(1500) - 500, Second: s.below(4)})
		}
		pages := []int{0, 1, 31, 32, 500, 1022, 1023, 1024}
		for range 2000 {
			sp, page, want := spaces[s.below(6)], pages[s.below(8)], 1<<s.below(3)
			frame, _, f := modelNested(all, sp, page, want)
			reach(t, r, b, sp, page, want, s.below(10)-1, frame, f)
			switch s.below(40) {
			case 0:
				b.Evict(s.below(8))
			case 1:
				b.FlushPage(sp.Vmid, page)
			case 2:
				b.FlushAsid(sp.Vmid, sp.Asid)
			case 3:
				b.FlushVmid(sp.Vmid)
			case 4:
				b.FlushAll()
			}
			for _, l := range b.Lines() {
				if l == (api.Line{}) {
					continue
				}
				sp := spaces[2*l.Vmid+l.Asid]
				if l.Rights != 0 {
					n, rights, _ := Nested(r, sp, l.Page, l.Rights&-l.Rights)
					if n != l.Frame || rights != l.Rights {
						t.Fatalf("the line %+v says what the tables do not: %d, %d", l, n, rights)
					}
				}
			}
		}
		n, _ := b.Counts()
		found += n
		unchanged(t, r, all)
	}
	if found < 1000 {
		t.Errorf("only %d were found in the buffer: the run says little of it", found)
	}
}

// W5: the guest writes what it likes into its own tables; it comes to frames alone that the other table gives it, with rights that this gives.
func TestW5NothingButWhatTheOtherTableGives(t *testing.T) {
	var s source = 3
	given := map[int]int{3: 7, 4: 3, 5: 5, 6: 1, 7: 6}
	for range 200 {
		r := memory(t, 16)
		put(t, r, 1, 0, table(2))
		for i, n := range []int{3, 4, 5, 6, 7} {
			put(t, r, 2, i, leaf(n, given[n]))
		}
		for n := 3; n < 16; n++ {
			for i := range 32 {
				w := s.below(6)<<6 | s.below(8)<<2 | 3
				if s.below(2) == 0 {
					w = s.below(6)<<6 | 1
				}
				if s.below(8) == 0 {
					w = s.below(1 << 16)
				}
				word(t, r, n, i, w)
			}
		}
		found := 0
		for range 500 {
			sp := api.Space{Vmid: 1, First: s.below(7), Second: 1}
			page, want := s.below(1024), 1<<s.below(3)
			frame, rights, f := Nested(r, sp, page, want)
			if f != nothing {
				continue
			}
			found++
			if all, ok := given[frame]; !ok || all&want == 0 || rights&^all != 0 || rights&want == 0 {
				t.Fatalf("Nested(%+v, %d, %d) = %d, %d", sp, page, want, frame, rights)
			}
		}
		if found == 0 {
			t.Error("nothing was found at all")
		}
	}
}

// R1, R3: no call panics, and a fault has nothing beside it, at the greatest and least numbers in every argument.
func TestFarNumbersEverywhere(t *testing.T) {
	some := []int{math.MinInt, -1, 0, 1, 2, 9, 16, 1023, 1024, 1 << 58, math.MaxInt}
	r, _ := guestAt(t, 9)
	was := image(t, r)
	b := tlb.New()
	asked := 0
	for _, first := range some {
		for _, second := range some {
			for _, page := range some {
				frame, rights, f := modelSingle(was, second, page)
				single(t, r, second, page, frame, rights, f)
				for _, want := range some {
					s := api.Space{Vmid: want, Asid: page, First: first, Second: second}
					frame, rights, f := modelNested(was, s, page, want)
					nested(t, r, s, page, want, frame, rights, f)
					b.FlushAll()
					reach(t, r, b, s, page, want, want, frame, f)
					asked++
				}
			}
		}
	}
	counts(t, b, 0, asked)
	unchanged(t, r, was)
}
