package tlb

import (
	"math"
	"slices"
	"testing"

	"viceroy/api"
)

// farNumbers are no space, address space number, page, frame, rights and entry of anything;
// some would be one if they were cut to fewer bits.
var farNumbers = []int{-1, -2, -8, -15, -16, -1023, -1024, 1024, 1025, 4096, 1 << 16, 1<<16 + 1, 1 << 32, 1<<32 + 1, 1<<32 + 3, 1 << 62, math.MaxInt - 1, math.MaxInt, math.MinInt, math.MinInt + 1}

func line(vmid, asid, page, frame, rights int) api.Line {
	return api.Line{Vmid: vmid, Asid: asid, Page: page, Frame: frame, Rights: rights}
}

// part is one of a line's numbers, with the least and the most that it may be.
type part struct {
	name        string
	least, most int
	of          func(*api.Line) *int
}

// parts is the document's list of what a right line is.
func parts() []part {
	return []part{
		{"Vmid", 1, 15, func(l *api.Line) *int { return &l.Vmid }},
		{"Asid", 0, 15, func(l *api.Line) *int { return &l.Asid }},
		{"Page", 0, 1023, func(l *api.Line) *int { return &l.Page }},
		{"Frame", 0, 1023, func(l *api.Line) *int { return &l.Frame }},
		{"Rights", 0, 7, func(l *api.Line) *int { return &l.Rights }},
	}
}

// wrongLines are right but for one part, and the zero line, and one with all parts wrong.
func wrongLines() []api.Line {
	all := []api.Line{{}, line(0, 0, 0, 1, 0), line(0, 2, 3, 4, 5), line(16, 16, 1024, 1024, 8), line(-1, -1, -1, -1, -1)}
	for _, p := range parts() {
		for _, n := range append([]int{p.least - 1, p.most + 1}, farNumbers...) {
			for _, l := range []api.Line{line(1, 0, 0, 0, 0), line(1, 2, 3, 4, 5), line(15, 15, 1023, 1023, 7)} {
				*p.of(&l) = n
				all = append(all, l)
			}
		}
	}
	return all
}

// eight is what full fills: lines of two spaces, of which some share an address space number or a page.
func eight() []api.Line {
	return []api.Line{
		line(1, 0, 0, 10, 0),
		line(1, 0, 1023, 11, 1),
		line(1, 15, 0, 12, 2),
		line(1, 15, 1023, 13, 3),
		line(15, 0, 0, 14, 4),
		line(15, 0, 1023, 15, 5),
		line(15, 15, 0, 1023, 6),
		line(15, 15, 1023, 0, 7),
	}
}

func fill(t *testing.T, b *Tlb, at int, l api.Line) {
	t.Helper()
	if e := b.Fill(at, l); e != api.OK {
		t.Fatalf("Fill(%d, %+v): %v", at, l, e)
	}
}

func full(t *testing.T) *Tlb {
	t.Helper()
	b := New()
	for at, l := range eight() {
		fill(t, b, at, l)
	}
	return b
}

func holds(t *testing.T, b *Tlb, want []api.Line, after ...any) {
	t.Helper()
	if got := b.Lines(); !slices.Equal(got, want) {
		t.Errorf("Lines = %v, want %v, after %v", got, want, after)
	}
}

func counts(t *testing.T, b *Tlb, found, missed int, after ...any) {
	t.Helper()
	if f, m := b.Counts(); f != found || m != missed {
		t.Errorf("Counts = %d, %d, want %d, %d, after %v", f, m, found, missed, after)
	}
}

func finds(t *testing.T, b *Tlb, l api.Line) {
	t.Helper()
	if f, r, ok := b.Find(l.Vmid, l.Asid, l.Page); f != l.Frame || r != l.Rights || !ok {
		t.Errorf("Find(%d, %d, %d) = %d, %d, %v, want %d, %d, true", l.Vmid, l.Asid, l.Page, f, r, ok, l.Frame, l.Rights)
	}
}

func misses(t *testing.T, b *Tlb, vmid, asid, page int) {
	t.Helper()
	if f, r, ok := b.Find(vmid, asid, page); f != 0 || r != 0 || ok {
		t.Errorf("Find(%d, %d, %d) = %d, %d, %v, want 0, 0, false", vmid, asid, page, f, r, ok)
	}
}

func TestQ1RightLines(t *testing.T) {
	for _, p := range parts() {
		for n := p.least; n <= p.most; n++ {
			for _, l := range []api.Line{line(1, 0, 0, 0, 0), line(1, 2, 3, 4, 5), line(15, 15, 1023, 1023, 7)} {
				*p.of(&l) = n
				if !Right(l) {
					t.Errorf("%s %d: Right(%+v) = false", p.name, n, l)
				}
			}
		}
	}
}

func TestQ1WrongLines(t *testing.T) {
	for _, l := range wrongLines() {
		if Right(l) {
			t.Errorf("Right(%+v) = true", l)
		}
	}
}

func TestQ1NewIsEmpty(t *testing.T) {
	b := New()
	holds(t, b, make([]api.Line, 8), "New")
	counts(t, b, 0, 0, "New")
	if n := b.FlushAll(); n != 0 {
		t.Errorf("FlushAll of a new one = %d", n)
	}
	misses(t, b, 0, 0, 0)
	misses(t, b, 1, 0, 0)
}

func TestQ1TwoShareNothing(t *testing.T) {
	a, b := full(t), New()
	holds(t, b, make([]api.Line, 8), "the other one is filled")
	finds(t, a, eight()[3])
	misses(t, b, 1, 15, 1023)
	counts(t, a, 1, 0)
	counts(t, b, 0, 1)
	fill(t, b, 2, line(3, 3, 3, 3, 3))
	holds(t, a, eight(), "the other one is filled")
	if n := b.FlushAll(); n != 1 {
		t.Errorf("FlushAll = %d", n)
	}
	holds(t, a, eight(), "the other one is flushed")
}

func TestQ2FindGoesByThree(t *testing.T) {
	l := line(1, 2, 3, 4, 5)
	for at := range 8 {
		b := New()
		fill(t, b, at, l)
		finds(t, b, l)
		for _, far := range append([]int{0, 4, 7, 15, 16, 1023}, farNumbers...) {
			misses(t, b, far, 2, 3)
			misses(t, b, 1, far, 3)
			misses(t, b, 1, 2, far)
			misses(t, b, far, far, far)
		}
		misses(t, b, 2, 1, 3)
		misses(t, b, 1, 3, 2)
		misses(t, b, 3, 2, 1)
		misses(t, b, 1, 2, 4)
		want := make([]api.Line, 8)
		want[at] = l
		holds(t, b, want, "Find")
	}
}

func TestQ2FindAmongEight(t *testing.T) {
	b := full(t)
	for _, l := range eight() {
		finds(t, b, l)
	}
	misses(t, b, 1, 0, 1)
	misses(t, b, 2, 0, 0)
	misses(t, b, 1, 1, 0)
	holds(t, b, eight(), "Find")
	counts(t, b, 8, 3)
}

// TestQ2FindTellsNoughts: a line may tell the frame 0 without rights, and is found all the same.
func TestQ2FindTellsNoughts(t *testing.T) {
	b := New()
	fill(t, b, 5, line(1, 0, 0, 0, 0))
	finds(t, b, line(1, 0, 0, 0, 0))
	counts(t, b, 1, 0)
}

// TestQ2EmptyEntriesAreNotFound: what an empty entry is told as has the three numbers 0.
func TestQ2EmptyEntriesAreNotFound(t *testing.T) {
	b := full(t)
	misses(t, b, 0, 0, 0)
	b.Evict(4)
	misses(t, b, 0, 0, 0)
	b.FlushAll()
	misses(t, b, 0, 0, 0)
	counts(t, b, 0, 3)
}

func TestQ2CountsCountFindAlone(t *testing.T) {
	b := New()
	l := line(1, 2, 3, 4, 5)
	for n := range 5 {
		counts(t, b, n, 2*n)
		misses(t, b, 1, 2, 3)
		fill(t, b, n, l)
		fill(t, b, n+1, line(2, 2, 2, 2, 2))
		b.Fill(8, l)
		b.Fill(0, api.Line{})
		finds(t, b, l)
		misses(t, b, math.MinInt, math.MaxInt, -1)
		b.Lines()
		Right(l)
		b.Evict(n)
		b.Evict(-1)
		b.FlushPage(1, 3)
		b.FlushAsid(1, 2)
		b.FlushVmid(1)
		b.FlushAll()
		New().Find(1, 2, 3)
		b.Counts()
	}
	counts(t, b, 5, 10)
}

func TestQ3FillEachEntry(t *testing.T) {
	for at := range 8 {
		b := New()
		want := make([]api.Line, 8)
		for _, l := range eight() {
			fill(t, b, at, l)
			want[at] = l
			holds(t, b, want, "Fill", at)
			finds(t, b, l)
		}
		misses(t, b, 1, 0, 0)
	}
}

func TestQ3FillOverTheSameEntry(t *testing.T) {
	for at, old := range eight() {
		for _, l := range []api.Line{old, line(7, 7, 7, 7, 7), line(old.Vmid, old.Asid, old.Page, 500, 5), line(old.Vmid, old.Asid, 7, old.Frame, old.Rights)} {
			b := full(t)
			fill(t, b, at, l)
			want := eight()
			want[at] = l
			holds(t, b, want, "Fill", at, l)
			finds(t, b, l)
			if l.Vmid != old.Vmid || l.Page != old.Page {
				misses(t, b, old.Vmid, old.Asid, old.Page)
			}
		}
	}
}

// TestQ3FillEmptiesAnother: of each entry's page, into each other one, with the same and with another frame and rights.
func TestQ3FillEmptiesAnother(t *testing.T) {
	for from, old := range eight() {
		for at := range 8 {
			for _, l := range []api.Line{old, line(old.Vmid, old.Asid, old.Page, 600, 3)} {
				b := full(t)
				fill(t, b, at, l)
				want := eight()
				want[from] = api.Line{}
				want[at] = l
				holds(t, b, want, "Fill", at, l)
				finds(t, b, l)
			}
		}
	}
}

// TestQ3FillLeavesNearOnes: lines that share two of the three numbers, and the frame and the rights, are others.
func TestQ3FillLeavesNearOnes(t *testing.T) {
	b := New()
	near := []api.Line{line(1, 2, 3, 4, 5), line(2, 2, 3, 4, 5), line(1, 3, 3, 4, 5), line(1, 2, 4, 4, 5), line(3, 2, 1, 4, 5)}
	for at, l := range near {
		fill(t, b, at, l)
	}
	holds(t, b, append(near, make([]api.Line, 3)...), "near lines")
	for _, l := range near {
		finds(t, b, l)
	}
}

func TestQ3FillErrors(t *testing.T) {
	b := full(t)
	right := line(1, 0, 0, 77, 7)
	for _, at := range append([]int{8, 9, 15}, farNumbers...) {
		for _, l := range append(wrongLines(), right, eight()[2]) {
			if e := b.Fill(at, l); e != api.ErrArg {
				t.Errorf("Fill(%d, %+v): %v, want ErrArg", at, l, e)
			}
		}
	}
	for at := range 8 {
		for _, l := range wrongLines() {
			if e := b.Fill(at, l); e != api.ErrLine {
				t.Errorf("Fill(%d, %+v): %v, want ErrLine", at, l, e)
			}
		}
	}
	holds(t, b, eight(), "fills with errors")
	counts(t, b, 0, 0, "fills with errors")
}

func TestQ3Evict(t *testing.T) {
	for at, l := range eight() {
		b := full(t)
		want := eight()
		want[at] = api.Line{}
		for range 2 {
			if e := b.Evict(at); e != api.OK {
				t.Errorf("Evict(%d): %v", at, e)
			}
			holds(t, b, want, "Evict", at)
		}
		misses(t, b, l.Vmid, l.Asid, l.Page)
		fill(t, b, at, l)
		holds(t, b, eight(), "filled again", at)
	}
	if e := New().Evict(0); e != api.OK {
		t.Errorf("Evict of a new one: %v", e)
	}
}

func TestQ3EvictErrors(t *testing.T) {
	b := full(t)
	for _, at := range append([]int{8, 9, 15}, farNumbers...) {
		if e := b.Evict(at); e != api.ErrArg {
			t.Errorf("Evict(%d): %v", at, e)
		}
	}
	holds(t, b, eight(), "evictions with errors")
}

// flushed holds what a flush left against those lines that stay, and its answer against how many went.
func flushed(t *testing.T, b *Tlb, before []api.Line, n int, stays func(api.Line) bool, after ...any) {
	t.Helper()
	want, went := make([]api.Line, 8), 0
	for at, l := range before {
		if l.Vmid == 0 {
			continue
		}
		if stays(l) {
			want[at] = l
		} else {
			went++
		}
	}
	holds(t, b, want, after...)
	if n != went {
		t.Errorf("%d are told to be emptied, want %d, after %v", n, went, after)
	}
}

// numbers are asked of each flush: those that lines have, those that none has, those that are none, 0 of the empty ones among them.
func numbers() []int {
	return append([]int{0, 1, 2, 7, 15, 16, 1022, 1023}, farNumbers...)
}

// several are an empty one, a full one, and two in which every second entry is empty, so that empty entries stand among the others.
func several(t *testing.T) []*Tlb {
	t.Helper()
	even, odd := full(t), full(t)
	for at := range 8 {
		b := even
		if at%2 == 0 {
			b = odd
		}
		if e := b.Evict(at); e != api.OK {
			t.Fatal(e)
		}
	}
	return []*Tlb{New(), full(t), even, odd}
}

func TestQ4FlushPage(t *testing.T) {
	for _, vmid := range numbers() {
		for _, page := range numbers() {
			for _, b := range several(t) {
				before := b.Lines()
				n := b.FlushPage(vmid, page)
				flushed(t, b, before, n, func(l api.Line) bool { return l.Vmid != vmid || l.Page != page }, "FlushPage", vmid, page)
			}
		}
	}
}

func TestQ4FlushAsid(t *testing.T) {
	for _, vmid := range numbers() {
		for _, asid := range numbers() {
			for _, b := range several(t) {
				before := b.Lines()
				n := b.FlushAsid(vmid, asid)
				flushed(t, b, before, n, func(l api.Line) bool { return l.Vmid != vmid || l.Asid != asid }, "FlushAsid", vmid, asid)
			}
		}
	}
}

func TestQ4FlushVmid(t *testing.T) {
	for _, vmid := range numbers() {
		for _, b := range several(t) {
			before := b.Lines()
			n := b.FlushVmid(vmid)
			flushed(t, b, before, n, func(l api.Line) bool { return l.Vmid != vmid }, "FlushVmid", vmid)
		}
	}
}

func TestQ4FlushAll(t *testing.T) {
	for k, want := range []int{0, 8, 4, 4} {
		b := several(t)[k]
		for _, want := range []int{want, 0} {
			if n := b.FlushAll(); n != want {
				t.Errorf("FlushAll = %d, want %d", n, want)
			}
			holds(t, b, make([]api.Line, 8), "FlushAll")
		}
	}
}

// TestQ4Numbers: how many of eight each flush empties, written out.
func TestQ4Numbers(t *testing.T) {
	for _, x := range []struct {
		name  string
		want  int
		flush func(*Tlb) int
	}{
		{"a page", 2, func(b *Tlb) int { return b.FlushPage(1, 1023) }},
		{"a page of no line", 0, func(b *Tlb) int { return b.FlushPage(1, 1) }},
		{"a page of no space", 0, func(b *Tlb) int { return b.FlushPage(0, 0) }},
		{"an address space number", 2, func(b *Tlb) int { return b.FlushAsid(15, 15) }},
		{"one of no line", 0, func(b *Tlb) int { return b.FlushAsid(15, 1) }},
		{"one of no space", 0, func(b *Tlb) int { return b.FlushAsid(0, 0) }},
		{"a space", 4, func(b *Tlb) int { return b.FlushVmid(1) }},
		{"one without lines", 0, func(b *Tlb) int { return b.FlushVmid(2) }},
		{"none", 0, func(b *Tlb) int { return b.FlushVmid(0) }},
		{"all", 8, (*Tlb).FlushAll},
	} {
		b := full(t)
		if n := x.flush(b); n != x.want {
			t.Errorf("%s: %d, want %d", x.name, n, x.want)
		}
		if n := x.flush(b); n != 0 {
			t.Errorf("%s, once more: %d", x.name, n)
		}
	}
}

// TestQ4FlushPageOfAllAsids: a page is forgotten with each address space number that it stands with.
func TestQ4FlushPageOfAllAsids(t *testing.T) {
	b := New()
	for at := range 8 {
		fill(t, b, at, line(4, 2*at+1, 9, at, 7))
	}
	if n := b.FlushPage(4, 9); n != 8 {
		t.Errorf("FlushPage = %d", n)
	}
	for at := range 8 {
		misses(t, b, 4, 2*at+1, 9)
	}
}

func TestQ5LinesAreNewMemory(t *testing.T) {
	b := full(t)
	first, second := b.Lines(), b.Lines()
	clear(first)
	first = append(first[:0], line(9, 9, 9, 9, 7))
	if !slices.Equal(second, eight()) {
		t.Error("two answers share memory", second)
	}
	holds(t, b, eight(), "what was answered is changed")
	misses(t, b, 9, 9, 9)
	finds(t, b, eight()[0])
	fill(t, b, 0, line(2, 2, 2, 2, 2))
	b.FlushVmid(15)
	if !slices.Equal(second, eight()) {
		t.Error("an answer changes with the buffer", second)
	}
	for range 3 {
		second = append(second, line(8, 8, 8, 8, 7))
	}
	if n := len(b.Lines()); n != 8 {
		t.Errorf("%d lines", n)
	}
}

func TestQ5LinesAreEightInOrder(t *testing.T) {
	b, want := New(), make([]api.Line, 8)
	for k, at := range []int{7, 0, 3, 6, 1, 5, 2, 4} {
		want[at] = line(1+k, k, 10*k, 100*k, k)
		fill(t, b, at, want[at])
		holds(t, b, want, "Fill", at)
	}
}

// model is the document's rules over a map, of which an empty entry is no part.
type model struct {
	entries       map[int]api.Line
	found, missed int
}

func (m *model) forget(goes func(api.Line) bool) int {
	n := 0
	for at, l := range m.entries {
		if goes(l) {
			delete(m.entries, at)
			n++
		}
	}
	return n
}

func (m *model) find(vmid, asid, page int) (int, int, bool) {
	for _, l := range m.entries {
		if l.Vmid == vmid && l.Asid == asid && l.Page == page {
			m.found++
			return l.Frame, l.Rights, true
		}
	}
	m.missed++
	return 0, 0, false
}

func (m *model) fill(at int, l api.Line) {
	m.forget(func(o api.Line) bool { return o.Vmid == l.Vmid && o.Asid == l.Asid && o.Page == l.Page })
	m.entries[at] = l
}

func (m *model) lines() []api.Line {
	all := make([]api.Line, 8)
	for at, l := range m.entries {
		all[at] = l
	}
	return all
}

// TestQ6LongRun goes through many calls with few numbers, so that lines often meet, and holds each answer against the model.
func TestQ6LongRun(t *testing.T) {
	b, m := New(), &model{entries: map[int]api.Line{}}
	seed := uint32(1)
	next := func(n int) int {
		seed = seed*1664525 + 1013904223
		return int(seed>>16) % n
	}
	for step := range 20000 {
		v, a, p, at := 1+next(3), next(3), next(3), next(8)
		got, want := -1, -1
		switch next(12) {
		case 0:
			got, want = b.FlushPage(v, p), m.forget(func(l api.Line) bool { return l.Vmid == v && l.Page == p })
		case 1:
			got, want = b.FlushAsid(v, a), m.forget(func(l api.Line) bool { return l.Vmid == v && l.Asid == a })
		case 2:
			if next(4) == 0 {
				got, want = b.FlushVmid(v), m.forget(func(l api.Line) bool { return l.Vmid == v })
			}
		case 3:
			if next(10) == 0 {
				got, want = b.FlushAll(), m.forget(func(api.Line) bool { return true })
			}
		case 4:
			b.Evict(at)
			delete(m.entries, at)
		case 5, 6, 7:
			f, r, ok := b.Find(v, a, p)
			wf, wr, wok := m.find(v, a, p)
			if f != wf || r != wr || ok != wok {
				t.Fatalf("step %d: Find(%d, %d, %d) = %d, %d, %v, want %d, %d, %v", step, v, a, p, f, r, ok, wf, wr, wok)
			}
		default:
			l := line(v, a, p, next(1024), next(8))
			fill(t, b, at, l)
			m.fill(at, l)
		}
		if got != want {
			t.Fatalf("step %d: emptied %d, want %d", step, got, want)
		}
		if lines := b.Lines(); !slices.Equal(lines, m.lines()) {
			t.Fatalf("step %d: Lines = %v, want %v", step, lines, m.lines())
		}
		oneEach(t, b)
	}
	counts(t, b, m.found, m.missed, "the run")
	if m.found == 0 || m.missed == 0 {
		t.Error("the run finds, or misses, nothing")
	}
}

// oneEach: no two entries have one page of one space and address space number.
func oneEach(t *testing.T, b *Tlb) {
	t.Helper()
	seen := map[[3]int]int{}
	for at, l := range b.Lines() {
		if l.Vmid == 0 {
			continue
		}
		k := [3]int{l.Vmid, l.Asid, l.Page}
		if other, twice := seen[k]; twice {
			t.Fatalf("the entries %d and %d have one page: %v", other, at, l)
		}
		seen[k] = at
	}
}

func TestExamples(t *testing.T) {
	b := New()
	fill(t, b, 0, line(1, 2, 3, 4, 5))
	finds(t, b, line(1, 2, 3, 4, 5))
	misses(t, b, 1, 1, 3)
	fill(t, b, 7, line(1, 2, 3, 9, 1))
	finds(t, b, line(1, 2, 3, 9, 1))
	if l := b.Lines(); l[0] != (api.Line{}) {
		t.Error("the entry 0 has a line", l)
	}
	if n := b.FlushPage(1, 3); n != 1 {
		t.Errorf("FlushPage = %d", n)
	}
	if n := b.FlushAll(); n != 0 {
		t.Errorf("FlushAll = %d", n)
	}
	if e := b.Fill(8, line(1, 2, 3, 4, 5)); e != api.ErrArg {
		t.Error("Fill(8, ..)", e)
	}
	if e := b.Fill(0, api.Line{}); e != api.ErrLine {
		t.Error("Fill(0, a zero line)", e)
	}
	if e := b.Evict(-1); e != api.ErrArg {
		t.Error("Evict(-1)", e)
	}
}
