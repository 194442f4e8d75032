package pte

import (
	"bytes"
	"math"
	"slices"
	"testing"

	"viceroy/api"
	"viceroy/ram"
)

// farNumbers are no frame, rights, page, level, index and table of anything; some would wrap round to one that is there.
var farNumbers = []int{-1, -2, -32, -64, -1024, 1025, 4096, 1 << 16, 1 << 32, 1<<32 + 1, 1 << 57, 1 << 58, 1<<58 + 1, 1 << 62, math.MaxInt - 1, math.MaxInt, math.MinInt, math.MinInt + 1}

var (
	table = api.Entry{Valid: true, Frame: 9}
	leaf  = api.Entry{Valid: true, Leaf: true, Rights: 5, Frame: 700}
)

func leafOf(rights, frame int) api.Entry {
	return api.Entry{Valid: true, Leaf: true, Rights: rights, Frame: frame}
}

// rightWords is the document's list of right entries, written out, with the word that each one has.
func rightWords() map[uint16]api.Entry {
	all := map[uint16]api.Entry{0: {}}
	for f := range 1024 {
		all[uint16(f*64+1)] = api.Entry{Valid: true, Frame: f}
		for rights := range 8 {
			all[uint16(f*64+rights*4+3)] = leafOf(rights, f)
		}
	}
	return all
}

// wrongEntries are right but for one part, or for several.
func wrongEntries() []api.Entry {
	all := []api.Entry{
		{Leaf: true}, {Rights: 1}, {Rights: 7}, {Frame: 1}, {Frame: 1023}, {Leaf: true, Rights: 7, Frame: 3}, {Leaf: true, Frame: 1024}, {Rights: -1, Frame: 2},
		{Valid: true, Frame: 1024}, leafOf(0, 1024), leafOf(8, 0), leafOf(8, 1023), leafOf(15, 5), leafOf(8, 1024),
	}
	for rights := 1; rights <= 8; rights++ {
		all = append(all, api.Entry{Valid: true, Rights: rights}, api.Entry{Valid: true, Rights: rights, Frame: 1023})
	}
	for _, n := range farNumbers {
		all = append(all,
			api.Entry{Frame: n}, api.Entry{Rights: n}, api.Entry{Leaf: true, Rights: n, Frame: n},
			api.Entry{Valid: true, Frame: n}, api.Entry{Valid: true, Rights: n}, api.Entry{Valid: true, Rights: n, Frame: n},
			leafOf(n, 0), leafOf(0, n), leafOf(7, n), leafOf(n, 1023), leafOf(n, n))
	}
	return all
}

// filled is a memory whose bytes are all but 0, and no entries.
func filled(t *testing.T, frames int) *ram.Ram {
	t.Helper()
	r, e := ram.New(frames)
	if e != api.OK {
		t.Fatal(e)
	}
	for n := range frames {
		b := make([]byte, api.FrameBytes)
		for k := range b {
			b[k] = byte(n+k)<<2 | 2
		}
		if e := r.Lay(n, b...); e != api.OK {
			t.Fatal(n, e)
		}
	}
	return r
}

// empty is a memory of noughts.
func empty(t *testing.T, frames int) *ram.Ram {
	t.Helper()
	r, e := ram.New(frames)
	if e != api.OK {
		t.Fatal(e)
	}
	return r
}

// whole is all bytes, one frame behind the other.
func whole(t *testing.T, r *ram.Ram) []byte {
	t.Helper()
	var all []byte
	for n := range r.Frames() {
		b, e := r.Frame(n)
		if e != api.OK {
			t.Fatal(n, e)
		}
		all = append(all, b...)
	}
	return all
}

func same(t *testing.T, r *ram.Ram, want []byte, after ...any) {
	t.Helper()
	if !bytes.Equal(whole(t, r), want) {
		t.Errorf("other bytes than expected, after %v", after)
	}
}

func TestE1RightEntries(t *testing.T) {
	for w, x := range rightWords() {
		if !Right(x) {
			t.Errorf("Right(%+v) = false", x)
		}
		if got, e := Encode(x); got != w || e != api.OK {
			t.Errorf("Encode(%+v) = %d, %v, want %d", x, got, e, w)
		}
	}
}

func TestE1WrongEntries(t *testing.T) {
	for _, x := range wrongEntries() {
		if Right(x) {
			t.Errorf("Right(%+v) = true", x)
		}
		if w, e := Encode(x); w != 0 || e != api.ErrEntry {
			t.Errorf("Encode(%+v) = %d, %v", x, w, e)
		}
	}
}

// TestE1Border goes over all small entries, those just beyond each border among them.
func TestE1Border(t *testing.T) {
	right := map[api.Entry]uint16{}
	for w, x := range rightWords() {
		right[x] = w
	}
	for _, f := range []int{-1, 0, 1, 2, 511, 512, 1022, 1023, 1024, 1025} {
		for rights := -2; rights <= 17; rights++ {
			for k := range 4 {
				x := api.Entry{Valid: k&1 == 1, Leaf: k&2 == 2, Rights: rights, Frame: f}
				w, ok := right[x]
				if Right(x) != ok {
					t.Errorf("Right(%+v) = %v", x, !ok)
				}
				want := api.ErrEntry
				if ok {
					want = api.OK
				}
				if got, e := Encode(x); got != w || e != want {
					t.Errorf("Encode(%+v) = %d, %v, want %d, %v", x, got, e, w, want)
				}
			}
		}
	}
}

func TestE1DecodeOfAllWords(t *testing.T) {
	right := rightWords()
	for w := range 65536 {
		x, ok := right[uint16(w)]
		want := api.ErrEntry
		if ok {
			want = api.OK
		}
		if got, e := Decode(uint16(w)); got != x || e != want {
			t.Errorf("Decode(%d) = %+v, %v, want %+v, %v", w, got, e, x, want)
		}
	}
}

func TestE1Examples(t *testing.T) {
	for _, x := range []struct {
		x api.Entry
		w uint16
		e api.Errno
	}{
		{leafOf(5, 3), 215, api.OK},
		{api.Entry{Valid: true, Frame: 1023}, 65473, api.OK},
		{api.Entry{}, 0, api.OK},
		{api.Entry{Valid: true, Rights: 1}, 0, api.ErrEntry},
		{api.Entry{Frame: 1}, 0, api.ErrEntry},
		{leafOf(8, 0), 0, api.ErrEntry},
	} {
		if w, e := Encode(x.x); w != x.w || e != x.e {
			t.Errorf("Encode(%+v) = %d, %v", x.x, w, e)
		}
	}
	for _, w := range []uint16{2, 1 + 32, 1 + 4} {
		if x, e := Decode(w); x != (api.Entry{}) || e != api.ErrEntry {
			t.Errorf("Decode(%d) = %+v, %v", w, x, e)
		}
	}
}

func TestE2Index(t *testing.T) {
	page := 0
	for i := range 32 {
		for j := range 32 {
			if got := Index(page, 0); got != i {
				t.Errorf("Index(%d, 0) = %d, want %d", page, got, i)
			}
			if got := Index(page, 1); got != j {
				t.Errorf("Index(%d, 1) = %d, want %d", page, got, j)
			}
			page++
		}
	}
	if Index(100, 0) != 3 || Index(100, 1) != 4 || Index(1023, 0) != 31 || Index(1023, 1) != 31 {
		t.Error("the example, or the last page")
	}
}

func TestE2NoPageOrNoLevel(t *testing.T) {
	for _, page := range append([]int{1024, 1055, 1124}, farNumbers...) {
		for _, level := range []int{0, 1, 2, -1, math.MaxInt, math.MinInt} {
			if got := Index(page, level); got != 0 {
				t.Errorf("Index(%d, %d) = %d", page, level, got)
			}
		}
	}
	for _, level := range append([]int{2, 3}, farNumbers...) {
		for _, page := range []int{0, 1, 31, 32, 100, 1023} {
			if got := Index(page, level); got != 0 {
				t.Errorf("Index(%d, %d) = %d", page, level, got)
			}
		}
	}
}

// TestE3GetReadsTheHalfWord lays each half word by the memory's own call, and all others as none of an entry.
func TestE3GetReadsTheHalfWord(t *testing.T) {
	const frames = 3
	for n := range frames {
		for i := range 32 {
			r := filled(t, frames)
			for _, w := range []uint16{0, 1, 3, 31, 215, 65473, 65503, 2, 33, 5, 64, 32, 65535} {
				if e := r.Store(n*64+2*i, 2, uint32(w)); e != api.OK {
					t.Fatal(e)
				}
				before := whole(t, r)
				want, wantErr := Decode(w)
				if got, e := Get(r, n, i); got != want || e != wantErr {
					t.Errorf("Get(%d, %d) of %d = %+v, %v, want %+v, %v", n, i, w, got, e, want, wantErr)
				}
				same(t, r, before, "Get")
			}
		}
	}
}

func TestE3PutWritesTheHalfWord(t *testing.T) {
	const frames = 3
	for n := range frames {
		for i := range 32 {
			r := filled(t, frames)
			want := whole(t, r)
			for _, x := range []api.Entry{leaf, table, leafOf(7, 1023), {}} {
				w, _ := Encode(x)
				want[n*64+2*i], want[n*64+2*i+1] = byte(w%256), byte(w/256)
				if e := Put(r, n, i, x); e != api.OK {
					t.Errorf("Put(%d, %d, %+v): %v", n, i, x, e)
				}
				same(t, r, want, "Put", n, i, x)
				if got, e := Get(r, n, i); got != x || e != api.OK {
					t.Errorf("Get(%d, %d) = %+v, %v, behind a Put of %+v", n, i, got, e, x)
				}
			}
		}
	}
}

func TestE3WrongIndex(t *testing.T) {
	r := filled(t, 2)
	before := whole(t, r)
	for _, i := range append([]int{32, 33, 63, 64}, farNumbers...) {
		for _, n := range []int{0, 1, 2, -1, 1024, 1 << 58, math.MaxInt, math.MinInt} {
			if x, e := Get(r, n, i); x != (api.Entry{}) || e != api.ErrArg {
				t.Errorf("Get(%d, %d) = %+v, %v", n, i, x, e)
			}
			for _, x := range []api.Entry{leaf, {Frame: 1}} {
				if e := Put(r, n, i, x); e != api.ErrArg {
					t.Errorf("Put(%d, %d, %+v): %v", n, i, x, e)
				}
			}
		}
	}
	same(t, r, before, "wrong indices")
}

func TestE3WrongTable(t *testing.T) {
	r := filled(t, 2)
	before := whole(t, r)
	for _, n := range append([]int{2, 3, 1023, 1024}, farNumbers...) {
		for i := range 32 {
			if x, e := Get(r, n, i); x != (api.Entry{}) || e != api.ErrAddress {
				t.Errorf("Get(%d, %d) = %+v, %v", n, i, x, e)
			}
			for _, x := range []api.Entry{leaf, {}, {Frame: 1}} {
				if e := Put(r, n, i, x); e != api.ErrAddress {
					t.Errorf("Put(%d, %d, %+v): %v", n, i, x, e)
				}
			}
		}
		if l, e := All(r, n); len(l) != 0 || e != api.ErrAddress {
			t.Errorf("All(%d) = %v, %v", n, l, e)
		}
	}
	same(t, r, before, "wrong tables")
}

// TestE3FirstAndLastTable: the border is the memory's, not the greatest that a memory may have.
func TestE3FirstAndLastTable(t *testing.T) {
	for _, frames := range []int{1, 2, 1023, 1024} {
		r := empty(t, frames)
		for _, n := range []int{0, frames - 1} {
			if e := Put(r, n, 31, leaf); e != api.OK {
				t.Errorf("of %d: Put(%d): %v", frames, n, e)
			}
			if x, e := Get(r, n, 31); x != leaf || e != api.OK {
				t.Errorf("of %d: Get(%d) = %+v, %v", frames, n, x, e)
			}
			if l, e := All(r, n); len(l) != 32 || e != api.OK {
				t.Errorf("of %d: All(%d) = %v, %v", frames, n, l, e)
			}
		}
		if _, e := Get(r, frames, 0); e != api.ErrAddress {
			t.Errorf("of %d: Get(%d): %v", frames, frames, e)
		}
		if e := Put(r, frames, 0, leaf); e != api.ErrAddress {
			t.Errorf("of %d: Put(%d): %v", frames, frames, e)
		}
		if _, e := All(r, frames); e != api.ErrAddress {
			t.Errorf("of %d: All(%d): %v", frames, frames, e)
		}
	}
}

func TestE3PutOfWrongEntries(t *testing.T) {
	r := filled(t, 2)
	before := whole(t, r)
	for _, x := range wrongEntries() {
		for _, i := range []int{0, 17, 31} {
			if e := Put(r, 1, i, x); e != api.ErrEntry {
				t.Errorf("Put(1, %d, %+v): %v", i, x, e)
			}
		}
	}
	same(t, r, before, "wrong entries")
}

// TestE3EntriesBeyondTheMemory: an entry's frame need not be one of the memory it lies in.
func TestE3EntriesBeyondTheMemory(t *testing.T) {
	r := empty(t, 1)
	for i, x := range []api.Entry{{Valid: true, Frame: 1023}, leafOf(0, 1023)} {
		if e := Put(r, 0, i, x); e != api.OK {
			t.Errorf("Put(%+v): %v", x, e)
		}
	}
}

func TestE3All(t *testing.T) {
	r := filled(t, 3)
	var want []api.Entry
	for i := range 32 {
		x := []api.Entry{{}, {Valid: true, Frame: 1023 - i}, leafOf(i%8, 31*i)}[i%3]
		want = append(want, x)
		if e := Put(r, 1, i, x); e != api.OK {
			t.Fatal(e)
		}
	}
	before := whole(t, r)
	if got, e := All(r, 1); e != api.OK || !slices.Equal(got, want) {
		t.Errorf("All = %v, %v, want %v", got, e, want)
	}
	same(t, r, before, "All")
	if got, e := All(empty(t, 1), 0); e != api.OK || !slices.Equal(got, make([]api.Entry, 32)) {
		t.Errorf("All of noughts = %v, %v", got, e)
	}
}

// TestE3AllWithOneWrong: wherever the one is that is no entry's, nothing of the table is told.
func TestE3AllWithOneWrong(t *testing.T) {
	for i := range 32 {
		for _, w := range []uint32{2, 5, 32, 33, 64, 65535} {
			r := empty(t, 2)
			if e := r.Store(64+2*i, 2, w); e != api.OK {
				t.Fatal(e)
			}
			if l, e := All(r, 1); len(l) != 0 || e != api.ErrEntry {
				t.Errorf("All with %d at %d = %v, %v", w, i, l, e)
			}
			if l, e := All(r, 0); len(l) != 32 || e != api.OK {
				t.Errorf("All of the table beside it = %v, %v", l, e)
			}
		}
	}
}

func TestE3AllIsNewMemory(t *testing.T) {
	r := empty(t, 1)
	Put(r, 0, 3, leaf)
	before := whole(t, r)
	first, _ := All(r, 0)
	second, _ := All(r, 0)
	clear(first)
	first = append(first[:0], table, table)
	same(t, r, before, "what was answered is changed")
	if second[3] != leaf || second[0] != (api.Entry{}) {
		t.Error("two answers share memory", second)
	}
	Put(r, 0, 3, table)
	if second[3] != leaf {
		t.Error("an answer changes with the memory", second)
	}
	if x, e := Get(r, 0, 0); x != (api.Entry{}) || e != api.OK {
		t.Error("Get", x, e)
	}
}

func TestE4DecodeOfEncode(t *testing.T) {
	words := map[uint16]api.Entry{}
	for _, x := range rightWords() {
		w, e := Encode(x)
		if e != api.OK {
			t.Fatalf("Encode(%+v): %v", x, e)
		}
		if y, twice := words[w]; twice {
			t.Errorf("%+v and %+v have the word %d", x, y, w)
		}
		words[w] = x
		if y, e := Decode(w); y != x || e != api.OK {
			t.Errorf("Decode(Encode(%+v)) = %+v, %v", x, y, e)
		}
	}
}

// TestE4PutChangesTwoBytesAlone: over any bytes, those of no entry too.
func TestE4PutChangesTwoBytesAlone(t *testing.T) {
	r := filled(t, 2)
	for i := range 32 {
		before := whole(t, r)
		if e := Put(r, 1, i, leaf); e != api.OK {
			t.Fatal(e)
		}
		for k, b := range whole(t, r) {
			if in := k == 64+2*i || k == 64+2*i+1; !in && b != before[k] {
				t.Errorf("Put(1, %d) changed the byte %d", i, k)
			}
		}
	}
}
