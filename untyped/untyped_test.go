package untyped

import (
	"bytes"
	"math"
	"slices"
	"testing"

	"viceroy/api"
	"viceroy/ram"
)

// farNumbers are such as no frame, size, count or kind is.
var farNumbers = []int{math.MinInt, math.MinInt + 1, -1 << 62, -1 << 32, -1025, -1024, -513, -512, -8, -1, 1025, 1 << 16, 1 << 32, 1<<32 + 1, 1 << 62, math.MaxInt - 1023, math.MaxInt - 1, math.MaxInt}

// oneFrame are the kinds whose things have one frame each.
var oneFrame = []int{api.CNode, api.Tcb, api.Endpoint, api.Note, api.Frame, api.Table, api.Vcpu}

// noFrame are kinds of which nothing is made.
var noFrame = []int{api.Null, api.Stream, api.Irq, api.Reply, 12, 1<<32 + api.Untyped, 1<<32 + api.Frame}

func region(first, frames, mark int) api.Region {
	return api.Region{First: first, Frames: frames, Mark: mark}
}

func device(first, frames, mark int) api.Region {
	return api.Region{First: first, Frames: frames, Mark: mark, Device: true}
}

// poolOf is a pool of these regions.
func poolOf(t *testing.T, l ...api.Region) *Pool {
	t.Helper()
	p := New()
	for _, x := range l {
		answers(t, "Add", p.Add(x), api.OK)
	}
	return p
}

// written is a memory none of whose bytes is 0.
func written(t *testing.T, frames int) *ram.Ram {
	t.Helper()
	r, e := ram.New(frames)
	answers(t, "ram.New", e, api.OK)
	for n := range frames {
		r.Lay(n, bytes.Repeat([]byte{byte(n%255 + 1)}, api.FrameBytes)...)
	}
	return r
}

// cleared are the frames of a memory all of whose bytes are 0.
func cleared(r *ram.Ram) []int {
	var l []int
	for n := range r.Frames() {
		if b, _ := r.Frame(n); bytes.Equal(b, make([]byte, api.FrameBytes)) {
			l = append(l, n)
		}
	}
	return l
}

// row are the numbers from one to below another.
func row(from, to int) []int {
	var l []int
	for n := from; n < to; n++ {
		l = append(l, n)
	}
	return l
}

func answers(t *testing.T, what string, got, want api.Errno) {
	t.Helper()
	if got != want {
		t.Errorf("%s: %v; want %v", what, got, want)
	}
}

func gets(t *testing.T, p *Pool, first int, want api.Region, err api.Errno) {
	t.Helper()
	if x, e := p.Get(first); x != want || e != err {
		t.Errorf("Get(%d) = %+v, %v; want %+v, %v", first, x, e, want, err)
	}
}

func regions(t *testing.T, p *Pool, want ...api.Region) {
	t.Helper()
	if got := p.Regions(); !slices.Equal(got, want) {
		t.Errorf("Regions() = %+v; want %+v", got, want)
	}
}

func sized(t *testing.T, kind, frames, want int, err api.Errno) {
	t.Helper()
	if n, e := Size(kind, frames); n != want || e != err {
		t.Errorf("Size(%d, %d) = %d, %v; want %d, %v", kind, frames, n, e, want, err)
	}
}

// asked is what Room and Carve are asked by.
type asked struct{ first, kind, frames, count int }

// lies asks Room, which changes nothing, and Carve: both tell the same, and the region is left with that Mark.
func lies(t *testing.T, p *Pool, a asked, want int, err api.Errno, mark int) {
	t.Helper()
	all := p.Regions()
	if at, e := p.Room(a.first, a.kind, a.frames, a.count); at != want || e != err {
		t.Errorf("Room(%+v) = %d, %v; want %d, %v", a, at, e, want, err)
	}
	regions(t, p, all...)
	if at, e := p.Carve(a.first, a.kind, a.frames, a.count); at != want || e != err {
		t.Errorf("Carve(%+v) = %d, %v; want %d, %v", a, at, e, want, err)
	}
	for i := range all {
		if all[i].First == a.first {
			all[i].Mark = mark
		}
	}
	regions(t, p, all...)
}

// refused asks for an error of Room and Carve, which leaves all regions as they are.
func refused(t *testing.T, p *Pool, a asked, err api.Errno) {
	t.Helper()
	x, _ := p.Get(a.first)
	lies(t, p, a, 0, err, x.Mark)
}

func TestExamples(t *testing.T) {
	p, r := New(), written(t, 32)
	answers(t, "Add", p.Add(region(8, 8, 0)), api.OK)
	lies(t, p, asked{8, api.Tcb, 1, 1}, 8, api.OK, 1)
	lies(t, p, asked{8, api.Untyped, 4, 1}, 12, api.OK, 8)
	refused(t, p, asked{8, api.Frame, 1, 1}, api.ErrRoom)
	gets(t, p, 8, region(8, 8, 8), api.OK)
	units := 3
	answers(t, "Reset", p.Reset(r, 8, &units), api.ErrAgain)
	gets(t, p, 8, region(8, 8, 5), api.OK)
	sized(t, api.Untyped, 3, 0, api.ErrRoom)
	sized(t, api.Tcb, 2, 0, api.ErrRoom)
	sized(t, api.Stream, 1, 0, api.ErrKind)
	answers(t, "Add", p.Add(region(8, 1, 0)), api.ErrFull)
	answers(t, "Add", p.Add(region(1023, 2, 0)), api.ErrArg)
	refused(t, p, asked{9, api.Tcb, 1, 1}, api.ErrEmpty)
	refused(t, p, asked{8, api.Tcb, 1, 9}, api.ErrArg)
}

func TestErrorNumbers(t *testing.T) {
	for e, n := range map[api.Errno]int{api.ErrArg: 1, api.ErrAgain: 3, api.ErrFull: 130, api.ErrEmpty: 131, api.ErrRoom: 140, api.ErrKind: 141} {
		if int(e) != n {
			t.Errorf("%v is not %d", e, n)
		}
	}
}

func TestU1NewIsEmpty(t *testing.T) {
	p := New()
	regions(t, p)
	for _, first := range append(row(0, 1025), farNumbers...) {
		gets(t, p, first, api.Region{}, api.ErrEmpty)
		answers(t, "Drop", p.Drop(first), api.ErrEmpty)
		refused(t, p, asked{first, api.Tcb, 1, 1}, api.ErrEmpty)
		answers(t, "Reset", p.Reset(nil, first, nil), api.ErrEmpty)
	}
}

func TestU1WhatMayBe(t *testing.T) {
	for _, x := range []api.Region{
		region(0, 1, 0), region(0, 1, 1), region(0, 1024, 0), region(0, 1024, 1024),
		region(1023, 1, 0), region(1023, 1, 1), region(512, 512, 300), region(7, 5, 5), region(1, 1023, 1),
	} {
		for _, x.Device = range []bool{false, true} {
			p := poolOf(t, x)
			gets(t, p, x.First, x, api.OK)
			regions(t, p, x)
		}
	}
}

func TestU1WhatMayNotBe(t *testing.T) {
	l := []api.Region{
		{}, region(0, 0, 0), region(5, 0, 0), region(5, -1, 0), region(5, -1, -1), region(-1, 1, 0), region(-1, 2, 0), region(-1024, 1024, 0),
		region(0, 1025, 0), region(1, 1024, 0), region(512, 513, 0), region(1023, 2, 0), region(1024, 1, 0), region(1024, 0, 0), region(1025, -1, -1),
		region(8, 8, -1), region(8, 8, 9), region(8, 8, 16), region(0, 1, 2),
		region(math.MaxInt, math.MaxInt, 0), region(math.MaxInt, 1, 0), region(1, math.MaxInt, 0), region(math.MinInt, math.MinInt, 0), region(1<<62, 1<<62, 0), region(math.MinInt, math.MaxInt, 0),
	}
	for _, n := range farNumbers {
		l = append(l, region(n, 1, 0), region(0, n, 0), region(8, 8, n), region(n, -n, 0), region(n, 1-n, 0), region(8, n, n))
	}
	for _, x := range l {
		for _, x.Device = range []bool{false, true} {
			p := New()
			if e := p.Add(x); e != api.ErrArg {
				t.Errorf("Add(%+v): %v", x, e)
			}
			regions(t, p)
		}
	}
}

// Each First with each Frames at the memory's end, and each Mark of some.
func TestU1Bounds(t *testing.T) {
	for first := range 1025 {
		for _, frames := range []int{1024 - first, 1025 - first, 1, 0} {
			p, want := New(), api.OK
			if frames < 1 || first+frames > 1024 {
				want = api.ErrArg
			}
			answers(t, "Add", p.Add(region(first, frames, 0)), want)
		}
	}
	for frames := 1; frames <= 64; frames++ {
		for mark := -2; mark <= frames+2; mark++ {
			want := api.OK
			if mark < 0 || mark > frames {
				want = api.ErrArg
			}
			answers(t, "Add", New().Add(region(100, frames, mark)), want)
		}
	}
}

func TestU1AddTwice(t *testing.T) {
	p := poolOf(t, region(8, 8, 3))
	answers(t, "other Frames", p.Add(region(8, 4, 0)), api.ErrFull)
	answers(t, "the same", p.Add(region(8, 8, 3)), api.ErrFull)
	answers(t, "a Device's", p.Add(device(8, 8, 3)), api.ErrFull)
	answers(t, "ErrArg comes first", p.Add(region(8, 0, 0)), api.ErrArg)
	answers(t, "ErrArg comes first", p.Add(region(8, 8, 9)), api.ErrArg)
	regions(t, p, region(8, 8, 3))
	answers(t, "Drop", p.Drop(8), api.OK)
	answers(t, "Drop again", p.Drop(8), api.ErrEmpty)
	answers(t, "Add behind Drop", p.Add(device(8, 4, 0)), api.OK)
	regions(t, p, device(8, 4, 0))
}

func TestU1RegionsInOneAnother(t *testing.T) {
	l := []api.Region{region(0, 64, 16), region(1, 1, 1), device(2, 62, 0), region(16, 16, 0), region(17, 1007, 9), region(1023, 1, 0)}
	for _, order := range [][]int{{0, 1, 2, 3, 4, 5}, {5, 4, 3, 2, 1, 0}, {3, 0, 5, 1, 4, 2}} {
		p := New()
		for _, i := range order {
			answers(t, "Add", p.Add(l[i]), api.OK)
		}
		regions(t, p, l...)
	}
}

func TestU1DropLeavesOthers(t *testing.T) {
	p := poolOf(t, region(0, 64, 16), region(8, 8, 4), region(16, 2, 1))
	answers(t, "Drop", p.Drop(8), api.OK)
	regions(t, p, region(0, 64, 16), region(16, 2, 1))
	for _, first := range []int{8, 1, 15, 17, 63, 64} {
		answers(t, "Drop", p.Drop(first), api.ErrEmpty)
	}
	answers(t, "Drop", p.Drop(0), api.OK)
	regions(t, p, region(16, 2, 1))
}

func TestU1AllFrames(t *testing.T) {
	p := New()
	var want []api.Region
	for n := range 1024 {
		at := n * 389 % 1024
		answers(t, "Add", p.Add(region(at, 1, 0)), api.OK)
		want = append(want, region(n, 1, 0))
	}
	regions(t, p, want...)
}

func TestU2Untyped(t *testing.T) {
	right := []int{1, 2, 4, 8, 16, 32, 64, 128, 256, 512}
	for _, n := range append(row(-1100, 1100), farNumbers...) {
		if slices.Contains(right, n) {
			sized(t, api.Untyped, n, n, api.OK)
		} else {
			sized(t, api.Untyped, n, 0, api.ErrRoom)
		}
	}
	for k := range 64 {
		if k > 9 {
			sized(t, api.Untyped, 1<<k, 0, api.ErrRoom)
		}
		sized(t, api.Untyped, -1<<k, 0, api.ErrRoom)
	}
}

func TestU2OneFrame(t *testing.T) {
	for _, kind := range oneFrame {
		sized(t, kind, 1, 1, api.OK)
		for _, n := range append(farNumbers, 0, 2, 3, 4, 8, 512, 1024) {
			sized(t, kind, n, 0, api.ErrRoom)
		}
	}
}

func TestU2OtherKinds(t *testing.T) {
	for _, kind := range append(farNumbers, noFrame...) {
		for _, n := range append(farNumbers, 0, 1, 2, 3, 512) {
			sized(t, kind, n, 0, api.ErrKind)
		}
	}
}

func TestU3LeastMultiple(t *testing.T) {
	for _, c := range []struct {
		x        api.Region
		a        asked
		at, mark int
	}{
		{region(8, 8, 0), asked{8, api.Tcb, 1, 8}, 8, 8},
		{region(8, 8, 3), asked{8, api.Tcb, 1, 5}, 11, 8},
		{region(8, 8, 3), asked{8, api.Untyped, 2, 1}, 12, 6},
		{region(8, 8, 4), asked{8, api.Untyped, 2, 1}, 12, 6},
		{region(8, 8, 4), asked{8, api.Untyped, 2, 2}, 12, 8},
		{region(8, 8, 0), asked{8, api.Untyped, 8, 1}, 8, 8},
		// Multiples are the frames' own numbers', not those within the region.
		{region(5, 20, 0), asked{5, api.Untyped, 4, 1}, 8, 7},
		{region(5, 20, 4), asked{5, api.Untyped, 4, 3}, 12, 19},
		{region(5, 20, 3), asked{5, api.Untyped, 4, 4}, 8, 19},
		{region(1, 1023, 0), asked{1, api.Untyped, 512, 1}, 512, 1023},
		{region(0, 1024, 0), asked{0, api.Untyped, 512, 2}, 0, 1024},
		{region(0, 1024, 1), asked{0, api.Untyped, 512, 1}, 512, 1024},
		{region(0, 1024, 0), asked{0, api.Untyped, 128, 8}, 0, 1024},
		{region(1023, 1, 0), asked{1023, api.Untyped, 1, 1}, 1023, 1},
		{region(1016, 8, 0), asked{1016, api.Vcpu, 1, 8}, 1016, 8},
		{device(6, 10, 0), asked{6, api.Untyped, 8, 1}, 8, 10},
	} {
		p := poolOf(t, region(c.x.First+1-2*(c.x.First%2), 1, 0), c.x)
		lies(t, p, c.a, c.at, api.OK, c.mark)
	}
}

func TestU3NoRoom(t *testing.T) {
	for _, c := range []struct {
		x api.Region
		a asked
	}{
		{region(8, 8, 8), asked{8, api.Frame, 1, 1}},
		{region(8, 8, 1), asked{8, api.Frame, 1, 8}},
		{region(8, 8, 1), asked{8, api.Untyped, 8, 1}},
		{region(8, 8, 0), asked{8, api.Untyped, 16, 1}},
		{region(8, 7, 0), asked{8, api.Untyped, 8, 1}},
		{region(8, 8, 5), asked{8, api.Untyped, 4, 1}},
		{region(9, 7, 0), asked{9, api.Untyped, 8, 1}},
		{region(9, 8, 0), asked{9, api.Untyped, 8, 1}},
		{region(5, 20, 3), asked{5, api.Untyped, 16, 1}},
		{region(0, 1024, 0), asked{0, api.Untyped, 512, 3}},
		{region(0, 1024, 0), asked{0, api.Untyped, 512, 8}},
		{region(0, 1024, 1), asked{0, api.Untyped, 512, 2}},
		{region(0, 1024, 513), asked{0, api.Untyped, 512, 1}},
		{region(0, 1024, 1024), asked{0, api.Tcb, 1, 1}},
		{region(1023, 1, 0), asked{1023, api.Untyped, 2, 1}},
		{device(8, 8, 8), asked{8, api.Frame, 1, 1}},
	} {
		refused(t, poolOf(t, c.x), c.a, api.ErrRoom)
	}
}

func TestU3Counts(t *testing.T) {
	for _, n := range append(farNumbers, row(-2, 12)...) {
		p := poolOf(t, region(16, 64, 0))
		if n < 1 || n > 8 {
			refused(t, p, asked{16, api.Tcb, 1, n}, api.ErrArg)
			refused(t, p, asked{16, api.Untyped, 8, n}, api.ErrArg)
			continue
		}
		lies(t, p, asked{16, api.Tcb, 1, n}, 16, api.OK, n)
		p = poolOf(t, region(16, 64, 0))
		lies(t, p, asked{16, api.Untyped, 8, n}, 16, api.OK, 8*n)
	}
}

func TestU3Kinds(t *testing.T) {
	for _, kind := range oneFrame {
		lies(t, poolOf(t, region(4, 4, 1)), asked{4, kind, 1, 2}, 5, api.OK, 3)
		if kind == api.Frame {
			lies(t, poolOf(t, device(4, 4, 1)), asked{4, kind, 1, 2}, 5, api.OK, 3)
		} else {
			refused(t, poolOf(t, device(4, 4, 1)), asked{4, kind, 1, 2}, api.ErrKind)
		}
	}
	lies(t, poolOf(t, region(4, 4, 1)), asked{4, api.Untyped, 2, 1}, 6, api.OK, 4)
	lies(t, poolOf(t, device(4, 4, 1)), asked{4, api.Untyped, 2, 1}, 6, api.OK, 4)
	for _, kind := range append(farNumbers, noFrame...) {
		refused(t, poolOf(t, region(4, 4, 0)), asked{4, kind, 1, 1}, api.ErrKind)
		refused(t, poolOf(t, device(4, 4, 0)), asked{4, kind, 1, 1}, api.ErrKind)
	}
}

func TestU3OrderOfErrors(t *testing.T) {
	p := poolOf(t, region(4, 4, 4), device(8, 4, 4))
	refused(t, p, asked{5, api.Stream, 3, 9}, api.ErrEmpty)
	refused(t, p, asked{4, api.Stream, 3, 9}, api.ErrKind)
	refused(t, p, asked{4, api.Untyped, 3, 9}, api.ErrRoom)
	refused(t, p, asked{4, api.Tcb, 2, 0}, api.ErrRoom)
	refused(t, p, asked{4, api.Untyped, 8, 9}, api.ErrArg)
	refused(t, p, asked{4, api.Tcb, 1, 0}, api.ErrArg)
	refused(t, p, asked{8, api.Tcb, 2, 1}, api.ErrRoom)
	refused(t, p, asked{8, api.Tcb, 1, 9}, api.ErrArg)
	refused(t, p, asked{8, api.Tcb, 1, 1}, api.ErrKind)
	refused(t, p, asked{8, api.Frame, 1, 1}, api.ErrRoom)
}

func TestU3OneRegionAlone(t *testing.T) {
	p := poolOf(t, region(0, 64, 0), region(8, 8, 0), region(16, 8, 2))
	lies(t, p, asked{0, api.Untyped, 8, 1}, 0, api.OK, 8)
	// A region that lies in another one is not asked.
	lies(t, p, asked{0, api.Tcb, 1, 3}, 8, api.OK, 11)
	lies(t, p, asked{8, api.Tcb, 1, 3}, 8, api.OK, 3)
	lies(t, p, asked{16, api.Untyped, 4, 1}, 20, api.OK, 8)
	regions(t, p, region(0, 64, 11), region(8, 8, 3), region(16, 8, 8))
}

func TestU4WithoutUnits(t *testing.T) {
	p, r := poolOf(t, region(8, 8, 5), region(10, 4, 2)), written(t, 32)
	answers(t, "Reset", p.Reset(r, 8, nil), api.OK)
	regions(t, p, region(8, 8, 0), region(10, 4, 2))
	if got := cleared(r); !slices.Equal(got, row(8, 13)) {
		t.Errorf("cleared are %v", got)
	}
	r = written(t, 32)
	answers(t, "Reset again", p.Reset(r, 8, nil), api.OK)
	if got := cleared(r); got != nil {
		t.Errorf("cleared are %v", got)
	}
}

func TestU4Units(t *testing.T) {
	for mark := 0; mark <= 10; mark++ {
		for _, units := range append([]int{math.MinInt, -1 << 32, -1, math.MaxInt, math.MaxInt - 1}, row(0, 14)...) {
			taken := min(max(units, 0), mark)
			want := api.OK
			if taken < mark {
				want = api.ErrAgain
			}
			p, r, left := poolOf(t, region(6, 10, mark)), written(t, 20), units
			if e := p.Reset(r, 6, &left); e != want || left != units-taken {
				t.Errorf("Reset of %d with %d units: %v, %d are left", mark, units, e, left)
			}
			gets(t, p, 6, region(6, 10, mark-taken), api.OK)
			if got := cleared(r); !slices.Equal(got, row(6+mark-taken, 6+mark)) {
				t.Errorf("Reset of %d with %d units: cleared are %v", mark, units, got)
			}
		}
	}
}

func TestU4Device(t *testing.T) {
	p, r := poolOf(t, device(8, 8, 5)), written(t, 32)
	units := 2
	answers(t, "Reset", p.Reset(r, 8, &units), api.ErrAgain)
	gets(t, p, 8, device(8, 8, 3), api.OK)
	units = 4
	answers(t, "Reset", p.Reset(r, 8, &units), api.OK)
	gets(t, p, 8, device(8, 8, 0), api.OK)
	if got := cleared(r); got != nil || units != 1 {
		t.Errorf("cleared are %v; %d units are left", got, units)
	}
}

func TestU4BeyondTheMemory(t *testing.T) {
	p, r := poolOf(t, region(2, 1022, 1022), region(4, 2, 2)), written(t, 4)
	units := 1022
	answers(t, "Reset", p.Reset(r, 4, &units), api.OK)
	if got := cleared(r); got != nil || units != 1020 {
		t.Errorf("cleared are %v; %d units are left", got, units)
	}
	units = 1021
	answers(t, "Reset", p.Reset(r, 2, &units), api.ErrAgain)
	if got := cleared(r); !slices.Equal(got, []int{3}) || units != 0 {
		t.Errorf("cleared are %v; %d units are left", got, units)
	}
	answers(t, "Reset", p.Reset(r, 2, nil), api.OK)
	regions(t, p, region(2, 1022, 0), region(4, 2, 0))
	if got := cleared(r); !slices.Equal(got, []int{2, 3}) {
		t.Errorf("cleared are %v", got)
	}
}

func TestU4NoSuchRegion(t *testing.T) {
	p, r := poolOf(t, region(8, 8, 5)), written(t, 32)
	for _, first := range append(farNumbers, 0, 7, 9, 15, 16) {
		units := 9
		answers(t, "Reset", p.Reset(r, first, &units), api.ErrEmpty)
		none := 0
		answers(t, "ErrEmpty comes first", p.Reset(r, first, &none), api.ErrEmpty)
		if units != 9 || none != 0 {
			t.Errorf("%d, %d units are left", units, none)
		}
	}
	regions(t, p, region(8, 8, 5))
	if got := cleared(r); got != nil {
		t.Errorf("cleared are %v", got)
	}
}

// What was reset is given away again, from its first frame on.
func TestU4GivenAgain(t *testing.T) {
	p, r := poolOf(t, region(8, 8, 0)), written(t, 32)
	lies(t, p, asked{8, api.Untyped, 8, 1}, 8, api.OK, 8)
	units := 3
	answers(t, "Reset", p.Reset(r, 8, &units), api.ErrAgain)
	lies(t, p, asked{8, api.Tcb, 1, 1}, 13, api.OK, 6)
	answers(t, "Reset", p.Reset(r, 8, nil), api.OK)
	lies(t, p, asked{8, api.Tcb, 1, 1}, 8, api.OK, 1)
}

// Each region, with each units a call: the reset ends behind as many units as frames were given, and its memory is noughts.
func TestU5EndsBehindItsFrames(t *testing.T) {
	for mark := 0; mark <= 40; mark++ {
		for each := 1; each <= 7; each++ {
			p, r := poolOf(t, region(3, 40, mark)), written(t, 50)
			taken, calls := 0, 0
			for e := api.ErrAgain; e == api.ErrAgain; calls++ {
				units := each
				e = p.Reset(r, 3, &units)
				taken += each - units
			}
			if taken != mark || calls != max(1, (mark+each-1)/each) {
				t.Errorf("%d given, %d a call: %d units in %d calls", mark, each, taken, calls)
			}
			if got := cleared(r); !slices.Equal(got, row(3, 3+mark)) {
				t.Errorf("cleared are %v", got)
			}
		}
	}
}

// Rows of Carve till nothing more has room: things lie apart, at multiples, within.
func TestU5ThingsLieApart(t *testing.T) {
	d := dice{x: 5}
	for range 400 {
		first := d.throw(1024)
		x := region(first, 1+d.throw(1024-first), 0)
		x.Mark = d.pick(0, 0, d.throw(x.Frames+1))
		p, owner := poolOf(t, x), map[int]int{}
		for thing := range 60 {
			kind, frames, count := api.Untyped, 1<<d.throw(10), 1+d.throw(8)
			if d.throw(2) == 0 {
				kind, frames = oneFrame[d.throw(len(oneFrame))], 1
			}
			at, e := p.Carve(first, kind, frames, count)
			if e != api.OK {
				continue
			}
			if at%frames != 0 || at < x.First+x.Mark || at+count*frames > x.First+x.Frames {
				t.Fatalf("%+v: %d things of %d at %d", x, count, frames, at)
			}
			for n := at; n < at+count*frames; n++ {
				if old, ok := owner[n]; ok {
					t.Fatalf("%+v: the frame %d is of %d and of %d", x, n, old, thing)
				}
				owner[n] = thing
			}
		}
	}
}

func TestR1AnyArguments(t *testing.T) {
	r := written(t, 8)
	some := []int{math.MinInt, -1 << 62, -1, 0, 1, 2, 4, 8, 9, 512, 513, 1023, 1024, 1 << 62, math.MaxInt}
	for _, a := range some {
		for _, b := range some {
			for _, c := range some {
				p := poolOf(t, region(0, 1024, 7), device(8, 1, 0))
				p.Add(api.Region{First: a, Frames: b, Mark: c})
				p.Room(0, a, b, c)
				p.Carve(a, 1, b, c)
				units := c
				p.Reset(r, a, &units)
				for _, x := range p.Regions() {
					if !right(x) {
						t.Fatalf("%d, %d, %d: there is %+v", a, b, c, x)
					}
				}
			}
		}
	}
}

func TestR3ErrorsChangeNothing(t *testing.T) {
	p, r := poolOf(t, region(4, 4, 4), device(8, 4, 2)), written(t, 16)
	want := p.Regions()
	units := 5
	answers(t, "Add", p.Add(region(4, 1, 0)), api.ErrFull)
	answers(t, "Add", p.Add(region(4, 1, 2)), api.ErrArg)
	answers(t, "Drop", p.Drop(5), api.ErrEmpty)
	answers(t, "Reset", p.Reset(r, 5, &units), api.ErrEmpty)
	refused(t, p, asked{8, api.Tcb, 1, 1}, api.ErrKind)
	refused(t, p, asked{4, api.Tcb, 1, 1}, api.ErrRoom)
	regions(t, p, want...)
	if units != 5 || cleared(r) != nil {
		t.Errorf("%d units are left, cleared are %v", units, cleared(r))
	}
}

func TestR5NothingIsShared(t *testing.T) {
	x := region(4, 4, 1)
	p, q := New(), New()
	answers(t, "Add", p.Add(x), api.OK)
	x.Mark = 3
	gets(t, p, 4, region(4, 4, 1), api.OK)
	l := p.Regions()
	l[0].Mark = 2
	regions(t, p, region(4, 4, 1))
	g, _ := p.Get(4)
	lies(t, p, asked{4, api.Tcb, 1, 1}, 5, api.OK, 2)
	if g != region(4, 4, 1) || l[0] != region(4, 4, 2) || x != region(4, 4, 3) {
		t.Errorf("%+v, %+v, %+v", g, l[0], x)
	}
	regions(t, q)
	// The units are asked anew by each call, and not kept.
	units := 1
	answers(t, "Reset", p.Reset(written(t, 8), 4, &units), api.ErrAgain)
	units = 9
	gets(t, p, 4, region(4, 4, 1), api.OK)
	answers(t, "Reset", p.Reset(written(t, 8), 4, new(int)), api.ErrAgain)
	if units != 9 {
		t.Errorf("%d units are left", units)
	}
}
