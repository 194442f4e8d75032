package caps

import (
	"slices"
	"testing"

	"viceroy/api"
)

// isRight asks for a cap that is right: it has the word that the model says, and comes back of it.
func isRight(t *testing.T, c api.Cap) {
	t.Helper()
	if !Right(c) {
		t.Errorf("Right(%+v) = false", c)
	}
	w, e := Encode(c)
	if w != modelWord(c) || e != api.OK {
		t.Errorf("Encode(%+v) = %d, %v; want %d", c, w, e, modelWord(c))
	}
	if d, e := Decode(w); d != c || e != api.OK {
		t.Errorf("Decode(%d) = %+v, %v; want %+v", w, d, e, c)
	}
}

func isWrong(t *testing.T, c api.Cap) {
	t.Helper()
	if Right(c) {
		t.Errorf("Right(%+v) = true", c)
	}
	if w, e := Encode(c); w != 0 || e != api.ErrKind {
		t.Errorf("Encode(%+v) = %d, %v", c, w, e)
	}
}

func noCaps(t *testing.T, w uint64) {
	t.Helper()
	if c, e := Decode(w); c != (api.Cap{}) || e != api.ErrKind {
		t.Errorf("Decode(%d) = %+v, %v", w, c, e)
	}
}

func derives(t *testing.T, c, want api.Cap, err api.Errno) {
	t.Helper()
	if d, e := Derive(c); d != want || e != err {
		t.Errorf("Derive(%+v) = %+v, %v; want %+v, %v", c, d, e, want, err)
	}
}

// asked is what Mint is given beside a cap.
type asked struct{ rights, badge, guard, bits int }

func mints(t *testing.T, c api.Cap, a asked, want api.Cap, err api.Errno) {
	t.Helper()
	if d, e := Mint(c, a.rights, a.badge, a.guard, a.bits); d != want || e != err {
		t.Errorf("Mint(%+v, %+v) = %+v, %v; want %+v, %v", c, a, d, e, want, err)
	}
}

func endpoint(obj, rights, badge int) api.Cap {
	return api.Cap{Kind: api.Endpoint, Obj: obj, Rights: rights, Badge: badge}
}

func note(obj, rights, badge int) api.Cap {
	return api.Cap{Kind: api.Note, Obj: obj, Rights: rights, Badge: badge}
}

func node(obj, radix, guard, bits int) api.Cap {
	return api.Cap{Kind: api.CNode, Obj: obj, Radix: radix, Guard: guard, GuardBits: bits}
}

func TestExamples(t *testing.T) {
	if w, e := Encode(endpoint(5, 3, 1)); w != 311380 || e != api.OK {
		t.Error("Encode:", w, e)
	}
	for _, c := range []api.Cap{{Kind: api.Note, Rights: 8}, {Kind: api.CNode, Radix: 0}, {Kind: api.Tcb, Badge: 1}} {
		isWrong(t, c)
	}
	mints(t, endpoint(5, 3, 1), asked{3, 2, 0, 0}, api.Cap{}, api.ErrDerive)
	mints(t, endpoint(5, 11, 0), asked{1, 7, 0, 0}, endpoint(5, 1, 7), api.OK)
	mints(t, node(3, 2, 0, 0), asked{0, 0, 5, 2}, api.Cap{}, api.ErrArg)
	derives(t, api.Cap{Kind: api.Untyped}, api.Cap{}, api.ErrDerive)
	derives(t, api.Cap{}, api.Cap{}, api.ErrEmpty)
}

func TestErrorNumbers(t *testing.T) {
	if api.ErrArg != 1 || api.ErrDerive != 110 || api.ErrEmpty != 131 || api.ErrKind != 141 {
		t.Error("the chapter's numbers")
	}
}

// TestK1EveryKind: each kind has a right cap with as little, and one with as much as may be.
func TestK1EveryKind(t *testing.T) {
	for _, r := range rows {
		isRight(t, r.plain())
		isRight(t, r.full())
	}
	for kind, r := range rows {
		if r.kind != kind || len(rows) != 12 {
			t.Error("the rows:", kind, r)
		}
	}
	for _, kind := range append([]int{12, 13, 14, 15, 16, 17, 18, 20, 32, 64}, farNumbers...) {
		isWrong(t, api.Cap{Kind: kind})
		isWrong(t, api.Cap{Kind: kind, Obj: 1, Radix: 1})
		isWrong(t, api.Cap{Kind: kind, Obj: 1, Rights: 1, Device: true})
	}
}

// TestK1FieldsThatAKindHasNot: all of them, one by one, with the least that is not 0, and with others.
func TestK1FieldsThatAKindHasNot(t *testing.T) {
	numbers := append([]int{1, 2, 3, 4, 8, 15, 16, 1023, 1024, 1 << 16, 1<<20 - 1, 1 << 20}, farNumbers...)
	for _, r := range rows {
		for _, base := range []api.Cap{r.plain(), r.full()} {
			for _, n := range numbers {
				for _, c := range hasNot(r, base, n) {
					isWrong(t, c)
				}
			}
		}
	}
}

// hasNot is the cap with n in one field that the row has not, for each of these.
func hasNot(r row, base api.Cap, n int) []api.Cap {
	var all []api.Cap
	add := func(absent bool, change func(c *api.Cap)) {
		if absent {
			c := base
			change(&c)
			all = append(all, c)
		}
	}
	add(r.kind == api.Null, func(c *api.Cap) { c.Obj = n })
	add(len(r.rights) == 1, func(c *api.Cap) { c.Rights = n })
	add(!r.badge, func(c *api.Cap) { c.Badge = n })
	add(!r.node, func(c *api.Cap) { c.Radix = n })
	add(!r.node, func(c *api.Cap) { c.Guard = n })
	add(!r.node, func(c *api.Cap) { c.GuardBits = n })
	add(!r.node, func(c *api.Cap) { c.Radix, c.Guard, c.GuardBits = 1, 1, 1 })
	add(!r.device, func(c *api.Cap) { c.Device = true })
	return all
}

func TestK1Objects(t *testing.T) {
	for _, r := range rows {
		for _, base := range []api.Cap{r.plain(), r.full()} {
			for obj := -1; obj <= 1025; obj++ {
				c := base
				c.Obj = obj
				if obj >= 0 && obj <= r.lastObj {
					isRight(t, c)
				} else {
					isWrong(t, c)
				}
			}
			for _, obj := range farNumbers {
				base.Obj = obj
				isWrong(t, base)
			}
		}
	}
	// The bounds that are a kind's own, by their numbers.
	isRight(t, api.Cap{Kind: api.Stream, Obj: 15})
	isWrong(t, api.Cap{Kind: api.Stream, Obj: 16})
	isRight(t, api.Cap{Kind: api.Irq, Obj: 31})
	isWrong(t, api.Cap{Kind: api.Irq, Obj: 32})
	isRight(t, api.Cap{Kind: api.Reply, Obj: 1023})
	isWrong(t, api.Cap{Kind: api.Reply, Obj: 1024})
}

func TestK1Rights(t *testing.T) {
	may := map[int]int{api.Endpoint: api.Read | api.Write | api.Grant, api.Note: api.Read | api.Write, api.Frame: api.Read | api.Write | api.Exec}
	for kind := range 12 {
		for rights := range 64 {
			c := rows[kind].plain()
			c.Rights = rights
			if rights&may[kind] == rights {
				isRight(t, c)
			} else {
				isWrong(t, c)
			}
		}
		for _, rights := range farNumbers {
			c := rows[kind].plain()
			c.Rights = rights
			isWrong(t, c)
		}
	}
}

func TestK1Badges(t *testing.T) {
	for _, kind := range []int{api.Endpoint, api.Note} {
		for _, badge := range []int{0, 1, 2, 1 << 10, 1 << 19, 1<<20 - 2, 1<<20 - 1} {
			isRight(t, api.Cap{Kind: kind, Obj: 1, Rights: 3, Badge: badge})
		}
		for _, badge := range append([]int{1 << 20, 1<<20 + 1}, farNumbers...) {
			isWrong(t, api.Cap{Kind: kind, Obj: 1, Rights: 3, Badge: badge})
		}
	}
}

func TestK1NodesRadix(t *testing.T) {
	for radix := 1; radix <= 4; radix++ {
		isRight(t, node(7, radix, 0, 0))
		isRight(t, node(7, radix, 65535, 16))
	}
	for _, radix := range append([]int{0, 5, 6, 7, 8, 9}, farNumbers...) {
		isWrong(t, node(7, radix, 0, 0))
		isWrong(t, node(7, radix, 1, 1))
	}
}

func TestK1NodesGuard(t *testing.T) {
	for bits := 0; bits <= 16; bits++ {
		isRight(t, node(7, 2, 0, bits))
		isRight(t, node(7, 2, power(bits)-1, bits))
		isRight(t, node(7, 2, power(bits)/2, max(bits, 1)))
		isWrong(t, node(7, 2, power(bits), bits))
		isWrong(t, node(7, 2, power(bits)+1, bits))
		for _, guard := range append([]int{1 << 16, 1<<16 + 1}, farNumbers...) {
			isWrong(t, node(7, 2, guard, bits))
		}
	}
	for _, bits := range append([]int{17, 18, 31, 32, 63, 64, 65, 128}, farNumbers...) {
		for _, guard := range []int{0, 1, 65535, 65536, -1} {
			isWrong(t, node(7, 2, guard, bits))
		}
	}
}

func TestK1Device(t *testing.T) {
	for _, r := range rows {
		c := r.plain()
		c.Device = true
		if r.kind == api.Untyped || r.kind == api.Frame {
			isRight(t, c)
		} else {
			isWrong(t, c)
		}
	}
}

// TestK1AllBounds holds Right and Encode against the model, with all fields at bounds at once.
func TestK1AllBounds(t *testing.T) {
	rightOnes := 0
	everyBound(func(c api.Cap) {
		right, w, err := modelRight(c), uint64(0), api.ErrKind
		if right {
			w, err = modelWord(c), api.OK
			rightOnes++
		}
		if got := Right(c); got != right {
			t.Errorf("Right(%+v) = %v", c, got)
		}
		if got, e := Encode(c); got != w || e != err {
			t.Errorf("Encode(%+v) = %d, %v; want %d, %v", c, got, e, w, err)
		}
	})
	// Of six objects: 4 radixes with 5 guards, 4 kinds of the object alone, 8 and 4 rights with 3 badges, 8 rights and 1 with Device or not; a Null, 2 streams, 4 lines.
	if want := 6*(4*5+4+8*3+4*3+8*2+2) + 1 + 2 + 4; rightOnes != want {
		t.Error("right ones:", rightOnes, want)
	}
}

// TestK1EachBit: each bit of each field stands where the document says, and changes no other.
func TestK1EachBit(t *testing.T) {
	check := func(from, to api.Cap, bit int) {
		t.Helper()
		a, e := Encode(from)
		b, f := Encode(to)
		if e != api.OK || f != api.OK || a^b != uint64(1)<<bit || b < a {
			t.Errorf("%+v is %#x, %v, and %+v is %#x, %v; want the bit %d to come", from, a, e, to, b, f, bit)
		}
	}
	for bit := range 10 {
		check(api.Cap{Kind: api.Tcb}, api.Cap{Kind: api.Tcb, Obj: 1 << bit}, 4+bit)
	}
	for _, bit := range []int{0, 1, 3} {
		check(endpoint(5, 0, 1), endpoint(5, 1<<bit, 1), 14+bit)
	}
	for bit := range 3 {
		check(api.Cap{Kind: api.Frame}, api.Cap{Kind: api.Frame, Rights: 1 << bit}, 14+bit)
	}
	for bit := range 20 {
		check(note(5, 3, 0), note(5, 3, 1<<bit), 18+bit)
		check(endpoint(5, 3, 0), endpoint(5, 3, 1<<bit), 18+bit)
	}
	check(node(1, 1, 0, 0), node(1, 3, 0, 0), 39)
	check(node(1, 2, 0, 0), node(1, 3, 0, 0), 38)
	for bit := range 5 {
		check(node(1, 1, 0, 0), node(1, 1, 0, 1<<bit), 41+bit)
	}
	for bit := range 16 {
		check(node(1, 1, 0, 16), node(1, 1, 1<<bit, 16), 46+bit)
	}
	check(api.Cap{Kind: api.Untyped, Obj: 3}, api.Cap{Kind: api.Untyped, Obj: 3, Device: true}, 62)
	check(api.Cap{Kind: api.Frame, Rights: 7}, api.Cap{Kind: api.Frame, Rights: 7, Device: true}, 62)
	for _, r := range rows {
		if w, e := Encode(r.plain()); w%16 != uint64(r.kind) || e != api.OK {
			t.Errorf("kind %d: %d, %v", r.kind, w, e)
		}
	}
}

func TestK1Words(t *testing.T) {
	for _, x := range []struct {
		c api.Cap
		w uint64
	}{
		{api.Cap{}, 0},
		{api.Cap{Kind: api.Untyped, Device: true}, 0x4000000000000001},
		{api.Cap{Kind: api.Untyped, Obj: 1023}, 0x3ff1},
		{node(3, 4, 0, 0), 0x10000000032},
		{node(0, 1, 65535, 16), 0x3fffe04000000002},
		{endpoint(0, 11, 0), 0x2c004},
		{note(0, 0, 1<<20-1), 0x3ffffc0005},
		{api.Cap{Kind: api.Frame, Obj: 2, Rights: 7, Device: true}, 0x400000000001c026},
		{api.Cap{Kind: api.Stream, Obj: 15}, 0xf9},
		{api.Cap{Kind: api.Irq, Obj: 31}, 0x1fa},
		{api.Cap{Kind: api.Reply, Obj: 1}, 0x1b},
	} {
		if w, e := Encode(x.c); w != x.w || e != api.OK {
			t.Errorf("Encode(%+v) = %#x, %v; want %#x", x.c, w, e, x.w)
		}
		if c, e := Decode(x.w); c != x.c || e != api.OK {
			t.Errorf("Decode(%#x) = %+v, %v; want %+v", x.w, c, e, x.c)
		}
	}
}

func TestK1WordsOfNoCap(t *testing.T) {
	for _, w := range []uint64{12, 13, 14, 15, 12 + 1<<4, 15 + 1<<62, 1 << 63, 1<<63 - 1, 1<<64 - 1, 16, 2, 1<<62 + 3} {
		noCaps(t, w)
	}
	for _, r := range rows {
		for _, c := range []api.Cap{r.plain(), r.full()} {
			noCaps(t, modelWord(c)+1<<63)
			for _, x := range hasNot(r, c, 1) {
				noCaps(t, modelWord(x))
			}
		}
	}
	out := []api.Cap{
		{Kind: api.Stream, Obj: 16}, {Kind: api.Stream, Obj: 1023}, {Kind: api.Irq, Obj: 32}, {Kind: api.Irq, Obj: 1023},
		endpoint(1, 4, 0), endpoint(1, 15, 0), note(1, 4, 0), note(1, 8, 0), note(1, 15, 0), {Kind: api.Frame, Rights: 8}, {Kind: api.Frame, Rights: 15},
		node(1, 0, 0, 0), node(1, 5, 0, 0), node(1, 7, 0, 0), node(1, 1, 0, 17), node(1, 1, 0, 31), node(1, 1, 1, 0), node(1, 1, 2, 1), node(1, 1, 65535, 15), node(1, 1, 65535, 17),
	}
	for _, c := range out {
		noCaps(t, modelWord(c))
	}
}

func decodesAsModel(t *testing.T, w uint64) {
	t.Helper()
	want, err := modelDecode(w)
	if c, e := Decode(w); c != want || e != err {
		t.Errorf("Decode(%#x) = %+v, %v; want %+v, %v", w, c, e, want, err)
	}
}

// TestK1DecodeOfFewBits: each kind's number with up to three bits beside it.
func TestK1DecodeOfFewBits(t *testing.T) {
	for kind := range uint64(16) {
		for a := 4; a < 64; a++ {
			for b := a; b < 64; b++ {
				for c := b; c < 64; c++ {
					decodesAsModel(t, kind|1<<a|1<<b|1<<c)
				}
			}
		}
		decodesAsModel(t, kind)
	}
}

// TestK1DecodeNearRightWords: each bit of each right cap's word the other way.
func TestK1DecodeNearRightWords(t *testing.T) {
	for _, c := range rightCaps() {
		w := modelWord(c)
		decodesAsModel(t, w)
		for bit := range 64 {
			decodesAsModel(t, w^1<<bit)
		}
	}
}

// TestK1DecodeOfManyWords: words of all shapes, from a row of numbers that is the same each time.
func TestK1DecodeOfManyWords(t *testing.T) {
	w := uint64(11)
	for n := range 300000 {
		w = w*6364136223846793005 + 1442695040888963407
		decodesAsModel(t, w)
		decodesAsModel(t, w>>(n%64))
		decodesAsModel(t, w>>17&w>>5)
		decodesAsModel(t, w>>9&(1<<38-1)&^15|uint64(n%16))
	}
}

func TestK2Mask(t *testing.T) {
	masks := append([]int{0, 1, 2, 3, 4, 5, 6, 7, 8, 9, 10, 11, 12, 13, 14, 15, 16, 31, 1 << 20}, farNumbers...)
	for _, c := range rightCaps() {
		for _, rights := range masks {
			want := c
			switch c.Kind {
			case api.Endpoint, api.Note, api.Frame:
				want.Rights = 0
				for _, r := range []int{1, 2, 4, 8} {
					if c.Rights&r != 0 && rights&r != 0 {
						want.Rights += r
					}
				}
			}
			if got := Mask(c, rights); got != want {
				t.Errorf("Mask(%+v, %d) = %+v", c, rights, got)
			}
		}
	}
	frame := api.Cap{Kind: api.Frame, Obj: 3, Rights: 7, Device: true}
	for rights, want := range map[int]int{0: 0, 1: 1, 5: 5, 7: 7, 8: 0, 15: 7, -1: 7, -2: 6, -8: 0, 1<<32 + 4: 4} {
		if got := Mask(frame, rights); got != (api.Cap{Kind: api.Frame, Obj: 3, Rights: want, Device: true}) {
			t.Errorf("Mask(%+v, %d) = %+v", frame, rights, got)
		}
	}
}

// TestK2MaskOfOtherKinds: what has no rights stays whole, also if it is not right.
func TestK2MaskOfOtherKinds(t *testing.T) {
	for kind := -3; kind <= 20; kind++ {
		if kind == api.Endpoint || kind == api.Note || kind == api.Frame {
			continue
		}
		c := api.Cap{Kind: kind, Obj: -1, Rights: 13, Badge: 5, Radix: 9, Guard: 3, GuardBits: 1, Device: true}
		for _, rights := range append([]int{0, 1, 2, 7, 13, 15}, farNumbers...) {
			if got := Mask(c, rights); got != c {
				t.Errorf("Mask(%+v, %d) = %+v", c, rights, got)
			}
		}
	}
	// Of a kind that has rights, those that it should not have are masked too, and the rest stays.
	c := api.Cap{Kind: api.Note, Obj: -1, Rights: 13, Badge: -5, Radix: 9, Guard: 3, GuardBits: 1, Device: true}
	want := c
	want.Rights = 12
	if got := Mask(c, 14); got != want {
		t.Errorf("Mask(%+v, 14) = %+v", c, got)
	}
}

func TestK3Derive(t *testing.T) {
	errs := map[int]api.Errno{api.Null: api.ErrEmpty, api.Untyped: api.ErrDerive, api.Table: api.ErrDerive, api.Stream: api.ErrDerive, api.Reply: api.ErrDerive}
	for _, r := range rows {
		for _, c := range []api.Cap{r.plain(), r.full()} {
			if e := errs[r.kind]; e != api.OK {
				derives(t, c, api.Cap{}, e)
			} else {
				derives(t, c, c, api.OK)
			}
		}
	}
}

// TestK3DeriveAsksTheKindAlone: whatever else a cap has, and of kinds that are none.
func TestK3DeriveAsksTheKindAlone(t *testing.T) {
	for _, n := range append([]int{0, 1, 2}, farNumbers...) {
		for kind, e := range map[int]api.Errno{0: 131, 1: 110, 2: 0, 3: 0, 4: 0, 5: 0, 6: 0, 7: 110, 8: 0, 9: 110, 10: 0, 11: 110, 12: 0, -1: 0, 16: 0, 17: 0, 1 << 32: 0, 1<<32 + 1: 0} {
			c := api.Cap{Kind: kind, Obj: n, Rights: n, Badge: n, Radix: n, Guard: n, GuardBits: n, Device: true}
			if e == api.OK {
				derives(t, c, c, e)
			} else {
				derives(t, c, api.Cap{}, e)
			}
		}
	}
}

func TestK4MintOfWhatCannotBeCopied(t *testing.T) {
	for _, a := range []asked{{}, {15, 0, 0, 0}, {3, 1, 1, 1}, {3, -1, -1, -1}, {3, 1 << 20, 1 << 16, 17}, {-1, 5, 5, 2}} {
		for _, kind := range []int{api.Untyped, api.Table, api.Stream, api.Reply} {
			mints(t, rows[kind].plain(), a, api.Cap{}, api.ErrDerive)
			mints(t, rows[kind].full(), a, api.Cap{}, api.ErrDerive)
			mints(t, api.Cap{Kind: kind, Obj: -1, Badge: 1, Rights: 3}, a, api.Cap{}, api.ErrDerive)
		}
		mints(t, api.Cap{}, a, api.Cap{}, api.ErrEmpty)
		mints(t, api.Cap{Obj: 3, Rights: 3, Badge: 2}, a, api.Cap{}, api.ErrEmpty)
	}
}

// TestK4MintOfPlainKinds: badge, guard and bits say nothing to a kind that has none; a Frame is masked.
func TestK4MintOfPlainKinds(t *testing.T) {
	for _, n := range append([]int{0, 1, 5, 16, 17, 65536, 1 << 20}, farNumbers...) {
		for _, kind := range []int{api.Tcb, api.Vcpu, api.Irq} {
			for _, c := range []api.Cap{rows[kind].plain(), rows[kind].full()} {
				mints(t, c, asked{n, n, n, n}, c, api.OK)
			}
		}
		for rights := range 8 {
			for _, device := range []bool{false, true} {
				c := api.Cap{Kind: api.Frame, Obj: 1023, Rights: rights, Device: device}
				want := c
				want.Rights = rights & 5
				mints(t, c, asked{5, n, n, n}, want, api.OK)
				want.Rights = rights & n
				mints(t, c, asked{n, n, n, n}, want, api.OK)
			}
		}
	}
	for _, kind := range []int{-1, 12, 13, 16} {
		c := api.Cap{Kind: kind, Obj: 3, Rights: 15, Badge: 1, Radix: 1, Guard: 9, GuardBits: 1, Device: true}
		mints(t, c, asked{0, 2, 70000, 40}, c, api.OK)
	}
}

func TestK4MintOfBadges(t *testing.T) {
	for _, kind := range []int{api.Endpoint, api.Note} {
		has := func(rights, badge int) api.Cap {
			return api.Cap{Kind: kind, Obj: 1023, Rights: rights, Badge: badge}
		}
		for _, badge := range []int{1, 2, 7, 1 << 19, 1<<20 - 1} {
			mints(t, has(3, 0), asked{3, badge, 0, 0}, has(3, badge), api.OK)
			mints(t, has(3, 0), asked{2, badge, -1, 99}, has(2, badge), api.OK)
			mints(t, has(3, 0), asked{-1, badge, 1 << 40, -1}, has(3, badge), api.OK)
			// One that has a badge keeps it, or is refused: also the same one again.
			mints(t, has(3, badge), asked{1, 0, 0, 0}, has(1, badge), api.OK)
			mints(t, has(3, badge), asked{0, 0, -1, -1}, has(0, badge), api.OK)
			mints(t, has(3, badge), asked{3, badge, 0, 0}, api.Cap{}, api.ErrDerive)
			mints(t, has(3, badge), asked{3, 1, 0, 0}, api.Cap{}, api.ErrDerive)
		}
		mints(t, has(3, 0), asked{12, 0, 0, 0}, has(0, 0), api.OK)
		mints(t, has(0, 0), asked{15, 0, 0, 0}, has(0, 0), api.OK)
		for _, badge := range append([]int{1 << 20, 1<<20 + 1}, farNumbers...) {
			mints(t, has(3, 0), asked{3, badge, 0, 0}, api.Cap{}, api.ErrArg)
			// ErrDerive is named first.
			mints(t, has(3, 1), asked{3, badge, 0, 0}, api.Cap{}, api.ErrDerive)
			mints(t, has(3, 1<<20-1), asked{0, badge, -1, -1}, api.Cap{}, api.ErrDerive)
			mints(t, has(3, badge), asked{3, 1, 0, 0}, api.Cap{}, api.ErrDerive)
		}
	}
	mints(t, endpoint(5, 11, 0), asked{15, 3, 0, 0}, endpoint(5, 11, 3), api.OK)
	mints(t, endpoint(5, 11, 0), asked{8, 0, 0, 0}, endpoint(5, 8, 0), api.OK)
}

func TestK4MintOfGuards(t *testing.T) {
	for _, c := range []api.Cap{node(0, 1, 0, 0), node(1023, 4, 65535, 16), node(3, 2, 1, 2)} {
		for bits := range 17 {
			for _, guard := range []int{0, power(bits) - 1} {
				mints(t, c, asked{0, 0, guard, bits}, node(c.Obj, c.Radix, guard, bits), api.OK)
				mints(t, c, asked{-1, -1, guard, bits}, node(c.Obj, c.Radix, guard, bits), api.OK)
				mints(t, c, asked{15, 1 << 20, guard, bits}, node(c.Obj, c.Radix, guard, bits), api.OK)
			}
			for _, guard := range append([]int{power(bits), power(bits) + 1, 1 << 16}, farNumbers...) {
				mints(t, c, asked{0, 0, guard, bits}, api.Cap{}, api.ErrArg)
			}
		}
		for _, bits := range append([]int{17, 18, 31, 32, 63, 64, 65}, farNumbers...) {
			for _, guard := range append([]int{0, 1, 65535, 65536}, farNumbers...) {
				mints(t, c, asked{15, 0, guard, bits}, api.Cap{}, api.ErrArg)
			}
		}
	}
}

// TestK4MintAsTheModel holds all right caps against the model, with all that Mint is given at bounds.
func TestK4MintAsTheModel(t *testing.T) {
	for _, c := range rightCaps() {
		for _, rights := range []int{-1, 0, 1, 2, 3, 4, 7, 8, 11, 15} {
			for _, badge := range []int{-1, 0, 1, 1<<20 - 1, 1 << 20} {
				for _, g := range [][2]int{{0, 0}, {1, 0}, {-1, 3}, {7, 3}, {8, 3}, {65535, 16}, {65536, 16}, {0, 17}, {0, -1}} {
					want, err := modelMint(c, rights, badge, g[0], g[1])
					mints(t, c, asked{rights, badge, g[0], g[1]}, want, err)
				}
			}
		}
	}
}

func TestK5Same(t *testing.T) {
	for _, r := range rows {
		for _, s := range rows {
			for _, x := range []int{0, 1, 15} {
				for _, y := range []int{0, 1, 15} {
					a, b := r.full(), s.plain()
					a.Obj, b.Obj = x, y
					if want := r.kind == s.kind && x == y && r.kind != api.Null; Same(a, b) != want || Same(b, a) != want {
						t.Errorf("Same(%+v, %+v) = %v, %v", a, b, Same(a, b), Same(b, a))
					}
				}
			}
		}
	}
}

// TestK5SameAsksKindAndObjectAlone: what else the caps have may differ, and they need not be right.
func TestK5SameAsksKindAndObjectAlone(t *testing.T) {
	for kind := -2; kind <= 14; kind++ {
		a := api.Cap{Kind: kind, Obj: 7}
		for _, b := range []api.Cap{{Rights: 1}, {Badge: 1}, {Radix: 1}, {Guard: 1}, {GuardBits: 1}, {Device: true}, {Rights: -1, Badge: -1, Radix: -1, Guard: -1, GuardBits: -1}} {
			b.Kind, b.Obj = kind, 7
			if want := kind != api.Null; Same(a, b) != want || Same(b, a) != want || Same(a, a) != want {
				t.Errorf("Same(%+v, %+v) = %v", a, b, Same(a, b))
			}
			b.Obj = 8
			if Same(a, b) || Same(b, a) {
				t.Errorf("Same(%+v, %+v) = true", a, b)
			}
			b.Kind, b.Obj = kind+1, 7
			if Same(a, b) || Same(b, a) {
				t.Errorf("Same(%+v, %+v) = true", a, b)
			}
		}
	}
	if Same(api.Cap{}, api.Cap{}) {
		t.Error("two Nulls")
	}
	// Obj and Kind count whole, and are not held against each other.
	if Same(api.Cap{Kind: 3, Obj: 1 << 32}, api.Cap{Kind: 3}) || Same(api.Cap{Kind: 3, Obj: 4}, api.Cap{Kind: 4, Obj: 3}) || Same(api.Cap{Kind: 3, Obj: -1}, api.Cap{Kind: 3, Obj: 1}) {
		t.Error("other objects")
	}
}

// child is what K6 says of a cap that was made of another one.
func child(t *testing.T, from, made api.Cap) {
	t.Helper()
	if !Right(made) || made.Rights&^from.Rights != 0 || made.Kind != from.Kind || made.Obj != from.Obj || Same(made, from) != (from.Kind != api.Null) {
		t.Errorf("of %+v was made %+v", from, made)
	}
}

func TestK6WhatIsMadeOfRightCaps(t *testing.T) {
	numbers := slices.Concat([]int{0, 1, 3, 8, 11, 15, 16, 17, 65535, 65536, 1<<20 - 1, 1 << 20}, farNumbers)
	for _, c := range rightCaps() {
		isRight(t, c)
		if d, e := Derive(c); e == api.OK {
			child(t, c, d)
		} else if d != (api.Cap{}) {
			t.Errorf("Derive(%+v) = %+v, %v", c, d, e)
		}
		for k, n := range numbers {
			child(t, c, Mask(c, n))
			more := numbers[(k+5)%len(numbers)]
			d, e := Mint(c, n, more, n, more)
			if e == api.OK {
				child(t, c, d)
			} else if d != (api.Cap{}) {
				t.Errorf("Mint(%+v) = %+v, %v", c, d, e)
			}
			if d, e := Mint(c, n, 0, n&15, 4); e == api.OK {
				child(t, c, d)
			}
		}
	}
}

// TestR1AnyArguments: none of the calls panics, and errors come alone, whatever stands in the fields.
func TestR1AnyArguments(t *testing.T) {
	numbers := slices.Concat([]int{0, 1, 2, 4, 10, 16, 63, 64, 65}, farNumbers)
	for k, a := range numbers {
		for _, b := range numbers {
			x, y := numbers[(k+7)%len(numbers)], numbers[(k+13)%len(numbers)]
			for kind := -1; kind <= 12; kind++ {
				c := api.Cap{Kind: kind, Obj: a, Rights: b, Badge: x, Radix: y, Guard: b, GuardBits: a, Device: k%2 == 0}
				if w, e := Encode(c); Right(c) != (e == api.OK) || e != api.OK && w != 0 {
					t.Errorf("Encode(%+v) = %d, %v", c, w, e)
				}
				want, err := modelMint(c, a, b, x, y)
				mints(t, c, asked{a, b, x, y}, want, err)
				if Mask(c, a).Obj != c.Obj || !Same(c, c) != (kind == api.Null) {
					t.Errorf("Mask or Same of %+v", c)
				}
			}
			decodesAsModel(t, uint64(a)^uint64(b)<<32)
		}
	}
}
