package isa

import (
	"math"
	"slices"
	"strings"
	"testing"

	"viceroy/api"
)

// operation is a line of the document's list: its form, an instruction of it, that one's word, and what it reads and writes.
type operation struct {
	op    int
	form  string
	i     api.Instr
	word  uint32
	reads []int
	write int
}

// operations are all of the document's table, written out.
var operations = []operation{
	{1, "ai", api.Instr{Op: api.OpMovi, A: 3, Imm: 500}, 0x013001f4, nil, 3},
	{2, "abc", api.Instr{Op: api.OpAdd, A: 1, B: 2, C: 3}, 0x02120003, []int{2, 3}, 1},
	{3, "abc", api.Instr{Op: api.OpSub, A: 15, B: 14, C: 13}, 0x03fe000d, []int{13, 14}, 15},
	{4, "abc", api.Instr{Op: api.OpAnd, A: 0, B: 15, C: 0}, 0x040f0000, []int{0, 15}, 0},
	{5, "abc", api.Instr{Op: api.OpXor, A: 7, B: 7, C: 7}, 0x05770007, []int{7}, 7},
	{6, "abc", api.Instr{Op: api.OpShl, A: 4, B: 5, C: 15}, 0x0645000f, []int{5, 15}, 4},
	{7, "abi", api.Instr{Op: api.OpLdr, A: 1, B: 2, Imm: 8}, 0x07120008, []int{2}, 1},
	{8, "abi", api.Instr{Op: api.OpStr, A: 1, B: 2, Imm: 8}, 0x08120008, []int{1, 2}, -1},
	{9, "abi", api.Instr{Op: api.OpLdrb, A: 15, B: 0, Imm: 65535}, 0x09f0ffff, []int{0}, 15},
	{10, "abi", api.Instr{Op: api.OpStrb, A: 9, B: 2, Imm: 258}, 0x0a920102, []int{2, 9}, -1},
	{11, "abi", api.Instr{Op: api.OpBeq, A: 1, B: 2, Imm: 64}, 0x0b120040, []int{1, 2}, -1},
	{12, "abi", api.Instr{Op: api.OpBne, A: 5, B: 5, Imm: 4}, 0x0c550004, []int{5}, -1},
	{13, "abi", api.Instr{Op: api.OpBlt, A: 15, B: 0, Imm: 65532}, 0x0df0fffc, []int{0, 15}, -1},
	{14, "i", api.Instr{Op: api.OpJmp, Imm: 68}, 0x0e000044, nil, -1},
	{15, "ai", api.Instr{Op: api.OpJal, A: 14, Imm: 1}, 0x0fe00001, nil, 14},
	{16, "b", api.Instr{Op: api.OpJr, B: 14}, 0x100e0000, []int{14}, -1},
	{17, "i", api.Instr{Op: api.OpHvc, Imm: 3}, 0x11000003, nil, -1},
	{18, "i", api.Instr{Op: api.OpSvc, Imm: 65535}, 0x1200ffff, nil, -1},
	{19, "ai", api.Instr{Op: api.OpMrs, A: 2, Imm: 6}, 0x13200006, nil, 2},
	{20, "bi", api.Instr{Op: api.OpMsr, B: 4, Imm: 2}, 0x14040002, []int{4}, -1},
	{21, "-", api.Instr{Op: api.OpWfi}, 0x15000000, nil, -1},
	{22, "a", api.Instr{Op: api.OpIar, A: 15}, 0x16f00000, nil, 15},
	{23, "b", api.Instr{Op: api.OpEoi, B: 5}, 0x17050000, []int{5}, -1},
	{24, "-", api.Instr{Op: api.OpTlbi}, 0x18000000, nil, -1},
	{25, "-", api.Instr{Op: api.OpNop}, 0x19000000, nil, -1},
}

// farNumbers are no operation, register and number of anything;
// some would be one if they were cut to fewer bits, or would run into another part of a word.
var farNumbers = []int{-1, -2, -15, -16, -17, -256, -65535, -65536, -65537, 65536, 65537, 1 << 17, 1 << 20, 1 << 24, 1<<24 + 1, 1 << 31, 1<<32 - 1, 1 << 32, 1<<32 + 1, 1<<32 + 25, 1 << 40, 1 << 56, 1 << 62, -1 << 32, 1 - 1<<32, math.MaxInt - 1, math.MaxInt, math.MinInt, math.MinInt + 1}

// farOps are no operation.
var farOps = slices.Concat([]int{0, 26, 27, 31, 32, 50, 100, 127, 128, 254, 255, 256, 257, 258, 281, 282, 512, 65535}, farNumbers)

// part is one of an instruction's beside its operation, with the most that it may be and its factor in a word.
type part struct {
	sign   string
	most   int
	factor uint32
	of     func(*api.Instr) *int
}

// fields are those that a form's signs name.
var fields = []part{
	{"a", 15, 1 << 20, func(i *api.Instr) *int { return &i.A }},
	{"b", 15, 1 << 16, func(i *api.Instr) *int { return &i.B }},
	{"c", 15, 1, func(i *api.Instr) *int { return &i.C }},
	{"i", 65535, 1, func(i *api.Instr) *int { return &i.Imm }},
}

// values are some that a part may have, its edges and each of its bits among them.
func (p part) values() []int {
	all := []int{0, p.most}
	for bit := 1; bit <= p.most; bit *= 2 {
		all = append(all, bit, p.most-bit)
	}
	slices.Sort(all)
	return slices.Compact(all)
}

// rights are right instructions of an operation: all that its parts' values come to.
func rights(o operation) []api.Instr {
	all := []api.Instr{{Op: o.op}}
	for _, p := range fields {
		if !strings.Contains(o.form, p.sign) {
			continue
		}
		var more []api.Instr
		for _, i := range all {
			for _, n := range p.values() {
				*p.of(&i) = n
				more = append(more, i)
			}
		}
		all = more
	}
	return all
}

// wordOf is what a right instruction's word is, as the document lays it.
func wordOf(i api.Instr) uint32 {
	w := uint32(i.Op) * (1 << 24)
	for _, p := range fields {
		w += uint32(*p.of(&i)) * p.factor
	}
	return w
}

// decoded is what Decode is to tell, read from the document's table alone.
func decoded(w uint32) (api.Instr, api.Errno) {
	op := int(w / (1 << 24))
	if op < 1 || op > 25 {
		return api.Instr{}, api.ErrWord
	}
	form := operations[op-1].form
	i := api.Instr{Op: op}
	left := w % (1 << 24)
	for _, p := range fields {
		if !strings.Contains(form, p.sign) {
			continue
		}
		n := left / p.factor
		if n > uint32(p.most) {
			return api.Instr{}, api.ErrWord
		}
		*p.of(&i) = int(n)
		left -= n * p.factor
	}
	if left != 0 {
		return api.Instr{}, api.ErrWord
	}
	return i, api.OK
}

func isRight(t *testing.T, i api.Instr, word uint32) {
	t.Helper()
	if !Right(i) {
		t.Errorf("Right(%+v) = false", i)
	}
	if w, e := Encode(i); w != word || e != api.OK {
		t.Errorf("Encode(%+v) = %#08x, %v, want %#08x", i, w, e, word)
	}
	if got, e := Decode(word); got != i || e != api.OK {
		t.Errorf("Decode(%#08x) = %+v, %v, want %+v", word, got, e, i)
	}
}

func isWrong(t *testing.T, i api.Instr) {
	t.Helper()
	if Right(i) {
		t.Errorf("Right(%+v) = true", i)
	}
	if w, e := Encode(i); w != 0 || e != api.ErrWord {
		t.Errorf("Encode(%+v) = %#08x, %v, want 0, ErrWord", i, w, e)
	}
	if l := Reads(i); len(l) != 0 {
		t.Errorf("Reads(%+v) = %v, want none", i, l)
	}
	if n := Writes(i); n != -1 {
		t.Errorf("Writes(%+v) = %d, want -1", i, n)
	}
}

func isNoWord(t *testing.T, w uint32) {
	t.Helper()
	if i, e := Decode(w); i != (api.Instr{}) || e != api.ErrWord {
		t.Errorf("Decode(%#08x) = %+v, %v, want the zero instruction, ErrWord", w, i, e)
	}
}

func decodes(t *testing.T, w uint32) {
	t.Helper()
	want, err := decoded(w)
	if i, e := Decode(w); i != want || e != err {
		t.Errorf("Decode(%#08x) = %+v, %v, want %+v, %v", w, i, e, want, err)
	}
}

func TestExamples(t *testing.T) {
	isRight(t, api.Instr{Op: api.OpMovi, A: 3, Imm: 500}, 0x013001f4)
	isRight(t, api.Instr{Op: api.OpAdd, A: 1, B: 2, C: 3}, 0x02120003)
	isRight(t, api.Instr{Op: api.OpNop}, 0x19000000)
	for _, w := range []uint32{0, 0x02120010, 0x19000001, 0x1a000000} {
		isNoWord(t, w)
	}
	if l := Reads(api.Instr{Op: api.OpAdd, A: 1, B: 2, C: 2}); !slices.Equal(l, []int{2}) {
		t.Errorf("Reads(add 1 2 2) = %v", l)
	}
	if n := Writes(api.Instr{Op: api.OpStr, A: 1, B: 2, Imm: 8}); n != -1 {
		t.Errorf("Writes(str 1 2 8) = %d", n)
	}
}

func TestS1EachOperation(t *testing.T) {
	for k, o := range operations {
		if o.op != k+1 || o.i.Op != o.op {
			t.Fatalf("operation %d: %+v", k+1, o)
		}
		isRight(t, o.i, o.word)
	}
}

func TestS1RightInstructions(t *testing.T) {
	for _, o := range operations {
		for _, i := range rights(o) {
			isRight(t, i, wordOf(i))
		}
	}
}

// TestS1Edges tries each part that an operation has at its edges, and just beyond these.
func TestS1Edges(t *testing.T) {
	for _, o := range operations {
		for _, p := range fields {
			if !strings.Contains(o.form, p.sign) {
				continue
			}
			for _, i := range []api.Instr{{Op: o.op}, o.i} {
				for _, n := range []int{0, 1, p.most - 1, p.most} {
					*p.of(&i) = n
					isRight(t, i, wordOf(i))
				}
				for _, n := range []int{-1, p.most + 1} {
					*p.of(&i) = n
					isWrong(t, i)
				}
			}
		}
	}
}

// TestS1FarNumbers sets one part of a right instruction to what no part can be, be it of the form or not.
func TestS1FarNumbers(t *testing.T) {
	for _, o := range operations {
		for _, p := range fields {
			for _, n := range farNumbers {
				for _, i := range []api.Instr{{Op: o.op}, o.i} {
					*p.of(&i) = n
					isWrong(t, i)
				}
			}
		}
		for _, n := range farNumbers {
			isWrong(t, api.Instr{Op: o.op, A: n, B: n, C: n, Imm: n})
		}
	}
	for _, n := range farNumbers {
		isWrong(t, api.Instr{Op: n, A: n, B: n, C: n, Imm: n})
	}
}

// TestS1AbsentParts sets each part that an operation's form does not have.
func TestS1AbsentParts(t *testing.T) {
	for _, o := range operations {
		for _, p := range fields {
			if strings.Contains(o.form, p.sign) {
				continue
			}
			for _, i := range []api.Instr{{Op: o.op}, o.i} {
				for n := -17; n <= 17; n++ {
					if n != 0 {
						*p.of(&i) = n
						isWrong(t, i)
					}
				}
				for _, n := range []int{255, 256, 65534, 65535, 65536} {
					*p.of(&i) = n
					isWrong(t, i)
				}
			}
		}
	}
}

// TestS1NumberAndRegister has C and Imm, which share bits of a word, both set: no form has both.
func TestS1NumberAndRegister(t *testing.T) {
	for op := range 27 {
		for _, n := range []int{1, 2, 15} {
			isWrong(t, api.Instr{Op: op, C: n, Imm: n})
			isWrong(t, api.Instr{Op: op, A: 1, B: 2, C: n, Imm: 16})
			isWrong(t, api.Instr{Op: op, A: 1, B: 2, C: n, Imm: 65535})
		}
	}
}

func TestS1NoOperation(t *testing.T) {
	for _, op := range farOps {
		isWrong(t, api.Instr{Op: op})
		for _, o := range operations {
			i := o.i
			i.Op = op
			isWrong(t, i)
		}
	}
	isWrong(t, api.Instr{})
	// A register of 16 would carry into the operation beside it in a word.
	isWrong(t, api.Instr{Op: 0, A: 16})
	isWrong(t, api.Instr{Op: 24, A: 16})
	isWrong(t, api.Instr{Op: 25, A: -16})
}

func TestS1NoWords(t *testing.T) {
	for op := range uint32(256) {
		if op >= 1 && op <= 25 {
			continue
		}
		for _, low := range []uint32{0, 1, 15, 0x10000, 0x100000, 0x120003, 0xffff, 0xffffff} {
			isNoWord(t, op<<24|low)
		}
	}
	for _, o := range operations {
		for _, p := range fields {
			// The bits of C are a number's too: a word has them, if its form has either.
			both := p.factor == 1 && strings.ContainsAny(o.form, "ci")
			if both || strings.Contains(o.form, p.sign) {
				continue
			}
			for n := uint32(1); n <= uint32(p.most); n++ {
				isNoWord(t, o.word+n*p.factor)
			}
		}
		if o.form != "abc" {
			continue
		}
		for above := uint32(1); above < 1<<12; above++ {
			isNoWord(t, o.word+above<<4)
		}
	}
}

// TestS1DecodeOfLowBits goes over all lower halves of words, for each operation and those beside them.
func TestS1DecodeOfLowBits(t *testing.T) {
	for op := range uint32(27) {
		for low := range uint32(1 << 16) {
			decodes(t, op<<24|low)
		}
	}
}

// TestS1DecodeOfHighBits goes over all upper halves of words, with some lower ones.
func TestS1DecodeOfHighBits(t *testing.T) {
	for high := range uint32(1 << 16) {
		for _, low := range []uint32{0, 1, 15, 16, 0x8000, 0xffff} {
			decodes(t, high<<16|low)
		}
	}
}

func TestS2Kind(t *testing.T) {
	for _, o := range operations {
		if got := Kind(o.op); got != o.form {
			t.Errorf("Kind(%d) = %q, want %q", o.op, got, o.form)
		}
	}
	for _, op := range farOps {
		if got := Kind(op); got != "" {
			t.Errorf("Kind(%d) = %q, want none", op, got)
		}
	}
	for op := 26; op <= 3000; op++ {
		if Kind(op) != "" || Kind(25-op) != "" {
			t.Errorf("Kind(%d) = %q, Kind(%d) = %q, want none", op, Kind(op), 25-op, Kind(25-op))
		}
	}
}

func TestS3EachOperation(t *testing.T) {
	for _, o := range operations {
		if got := Reads(o.i); !slices.Equal(got, o.reads) {
			t.Errorf("Reads(%+v) = %v, want %v", o.i, got, o.reads)
		}
		if got := Writes(o.i); got != o.write {
			t.Errorf("Writes(%+v) = %d, want %d", o.i, got, o.write)
		}
	}
}

// access is the document's list of what is read and written, by the operations' numbers.
func access(i api.Instr) (reads []int, write int) {
	switch i.Op {
	case 2, 3, 4, 5, 6:
		return []int{i.B, i.C}, i.A
	case 7, 9:
		return []int{i.B}, i.A
	case 8, 10, 11, 12, 13:
		return []int{i.A, i.B}, -1
	case 16, 20, 23:
		return []int{i.B}, -1
	case 1, 15, 19, 22:
		return nil, i.A
	}
	return nil, -1
}

// TestS3AllRegisters goes over all registers of each operation: the same one twice, and in either order, among them.
func TestS3AllRegisters(t *testing.T) {
	seen := map[api.Instr]bool{}
	for _, o := range operations {
		for n := range 16 * 16 * 16 {
			i := o.i
			for k, p := range fields[:3] {
				if strings.Contains(o.form, p.sign) {
					*p.of(&i) = n >> (4 * k) & 15
				}
			}
			if seen[i] {
				continue
			}
			seen[i] = true
			want, write := access(i)
			slices.Sort(want)
			want = slices.Compact(want)
			if got := Reads(i); !slices.Equal(got, want) {
				t.Errorf("Reads(%+v) = %v, want %v", i, got, want)
			}
			if got := Writes(i); got != write {
				t.Errorf("Writes(%+v) = %d, want %d", i, got, write)
			}
		}
	}
}

// TestS3Numbers has numbers as great as they may be: they are no registers.
func TestS3Numbers(t *testing.T) {
	for _, o := range operations {
		for _, n := range []int{0, 3, 15, 16, 65535} {
			i := o.i
			if strings.Contains(o.form, "i") {
				i.Imm = n
			}
			if got := Reads(i); !slices.Equal(got, o.reads) {
				t.Errorf("Reads(%+v) = %v, want %v", i, got, o.reads)
			}
			if got := Writes(i); got != o.write {
				t.Errorf("Writes(%+v) = %d, want %d", i, got, o.write)
			}
		}
	}
}

// TestS3ListsAreTheAskers: who changes a list, or puts more behind it, changes no other one.
func TestS3ListsAreTheAskers(t *testing.T) {
	for _, o := range operations {
		first, second := Reads(o.i), Reads(o.i)
		for k := range first {
			first[k] = 99
		}
		_ = append(first, 99, 99, 99)
		if !slices.Equal(second, o.reads) {
			t.Errorf("a list told before, of %+v: %v, want %v", o.i, second, o.reads)
		}
		if got := Reads(o.i); !slices.Equal(got, o.reads) {
			t.Errorf("Reads(%+v) = %v, want %v, behind a change of an earlier list", o.i, got, o.reads)
		}
	}
}

func TestS4ThereAndBack(t *testing.T) {
	words := map[uint32]api.Instr{}
	for _, o := range operations {
		for _, i := range rights(o) {
			w, e := Encode(i)
			if e != api.OK {
				t.Fatalf("Encode(%+v): %v", i, e)
			}
			if other, ok := words[w]; ok {
				t.Errorf("%+v and %+v have the word %#08x", other, i, w)
			}
			words[w] = i
			if got, e := Decode(w); got != i || e != api.OK {
				t.Errorf("Decode of Encode of %+v = %+v, %v", i, got, e)
			}
		}
	}
}

// TestS4BackAndThere goes over words far apart: each one that is decoded is that instruction's.
func TestS4BackAndThere(t *testing.T) {
	found := 0
	try := func(w uint32) {
		i, e := Decode(w)
		if e != api.OK {
			return
		}
		found++
		if !Right(i) {
			t.Errorf("Decode(%#08x) = %+v, which is not right", w, i)
		}
		if back, e := Encode(i); back != w || e != api.OK {
			t.Errorf("Encode of Decode of %#08x = %#08x, %v", w, back, e)
		}
	}
	for n := range uint32(1 << 19) {
		try(n * 8191)
	}
	for _, o := range operations {
		for bit := range 32 {
			try(o.word ^ 1<<bit)
			try(o.word ^ 3<<bit)
		}
	}
	if found < 1000 {
		t.Errorf("only %d words are instructions", found)
	}
}

// TestR6SameAnswers: wrong things between do not change what is answered.
func TestR6SameAnswers(t *testing.T) {
	for range 2 {
		for _, o := range operations {
			isNoWord(t, 0xffffffff)
			isWrong(t, api.Instr{Op: math.MinInt, A: math.MaxInt})
			isRight(t, o.i, o.word)
			if Kind(o.op) != o.form || Writes(o.i) != o.write || !slices.Equal(Reads(o.i), o.reads) {
				t.Errorf("%+v: %q, %v, %d", o.i, Kind(o.op), Reads(o.i), Writes(o.i))
			}
		}
	}
}
