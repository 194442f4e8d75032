package caps

import (
	"math"
	"slices"

	"viceroy/api"
)

// row is a line of the document's table: what caps of a kind have.
type row struct {
	kind, lastObj       int
	rights              []int
	badge, node, device bool
}

// none is what a kind without rights may have of them.
var none = []int{0}

// rows is the table, written out: a kind's row stands at its number.
var rows = []row{
	{kind: 0, lastObj: 0, rights: none},
	{kind: 1, lastObj: 1023, rights: none, device: true},
	{kind: 2, lastObj: 1023, rights: none, node: true},
	{kind: 3, lastObj: 1023, rights: none},
	{kind: 4, lastObj: 1023, rights: []int{0, 1, 2, 3, 8, 9, 10, 11}, badge: true},
	{kind: 5, lastObj: 1023, rights: []int{0, 1, 2, 3}, badge: true},
	{kind: 6, lastObj: 1023, rights: []int{0, 1, 2, 3, 4, 5, 6, 7}, device: true},
	{kind: 7, lastObj: 1023, rights: none},
	{kind: 8, lastObj: 1023, rights: none},
	{kind: 9, lastObj: 15, rights: none},
	{kind: 10, lastObj: 31, rights: none},
	{kind: 11, lastObj: 1023, rights: none},
}

// plain is a cap with just what the row says, as little of it as may be but the object.
func (r row) plain() api.Cap {
	c := api.Cap{Kind: r.kind, Obj: min(r.lastObj, 9)}
	if r.node {
		c.Radix = 1
	}
	return c
}

// full is one with as much of all as may be.
func (r row) full() api.Cap {
	c := api.Cap{Kind: r.kind, Obj: r.lastObj, Rights: slices.Max(r.rights), Device: r.device}
	if r.badge {
		c.Badge = 1048575
	}
	if r.node {
		c.Radix, c.GuardBits, c.Guard = 4, 16, 65535
	}
	return c
}

// power is two times itself, so many times.
func power(n int) int {
	p := 1
	for range n {
		p += p
	}
	return p
}

func (r row) takes(c api.Cap) bool {
	if c.Obj < 0 || c.Obj > r.lastObj || !slices.Contains(r.rights, c.Rights) || c.Device && !r.device {
		return false
	}
	if c.Badge != 0 && (!r.badge || c.Badge < 0 || c.Badge > 1048575) {
		return false
	}
	if !r.node {
		return c.Radix == 0 && c.Guard == 0 && c.GuardBits == 0
	}
	if c.Radix < 1 || c.Radix > 4 || c.GuardBits < 0 || c.GuardBits > 16 {
		return false
	}
	return c.Guard >= 0 && c.Guard < power(c.GuardBits)
}

// modelRight is Right, as the rows say it.
func modelRight(c api.Cap) bool {
	return c.Kind >= 0 && c.Kind < len(rows) && rows[c.Kind].takes(c)
}

// modelWord is a right cap's word as a sum, the way in which the document's example is written.
func modelWord(c api.Cap) uint64 {
	w := uint64(c.Kind) + uint64(c.Obj)*16 + uint64(c.Rights)*16384 + uint64(c.Badge)*262144
	w += uint64(c.Radix)*274877906944 + uint64(c.GuardBits)*2199023255552 + uint64(c.Guard)*70368744177664
	if c.Device {
		w += 4611686018427387904
	}
	return w
}

// modelDecode takes a word asunder by dividing it.
func modelDecode(w uint64) (api.Cap, api.Errno) {
	rest := w
	take := func(bits int) int {
		n := rest % uint64(power(bits))
		rest /= uint64(power(bits))
		return int(n)
	}
	c := api.Cap{Kind: take(4), Obj: take(10), Rights: take(4), Badge: take(20), Radix: take(3), GuardBits: take(5), Guard: take(16), Device: take(1) == 1}
	if rest != 0 || !modelRight(c) {
		return api.Cap{}, api.ErrKind
	}
	return c, api.OK
}

// modelMint is the promise's words, one behind the other.
func modelMint(c api.Cap, rights, badge, guard, bits int) (api.Cap, api.Errno) {
	switch c.Kind {
	case 0:
		return api.Cap{}, 131
	case 1, 7, 9, 11:
		return api.Cap{}, 110
	case 2:
		if bits < 0 || bits > 16 || guard < 0 || guard >= power(bits) {
			return api.Cap{}, 1
		}
		c.Guard, c.GuardBits = guard, bits
	case 4, 5:
		c.Rights &= rights
		if badge != 0 && c.Badge != 0 {
			return api.Cap{}, 110
		}
		if badge < 0 || badge > 1048575 {
			return api.Cap{}, 1
		}
		if badge != 0 {
			c.Badge = badge
		}
	case 6:
		c.Rights &= rights
	}
	return c, 0
}

// farNumbers are nothing of a cap; some would be, if they were cut to fewer bits, or shifted.
var farNumbers = []int{-1, -2, -8, -16, -17, -64, -1024, -1 << 20, -1 << 31, -1 << 32, math.MinInt, math.MinInt + 1, 1 << 21, 1<<21 + 1, 1 << 31, 1 << 32, 1<<32 + 1, 1<<32 + 3, 1<<38 + 1, 1 << 60, 1 << 62, 1<<62 + 2, math.MaxInt - 1, math.MaxInt}

// everyBound goes over all caps whose fields lie at, just within or just beyond a bound of some kind.
func everyBound(f func(api.Cap)) {
	for kind := -2; kind <= 17; kind++ {
		for _, obj := range []int{-1, 0, 15, 16, 31, 32, 1023, 1024} {
			for rights := -1; rights <= 16; rights++ {
				for _, badge := range []int{-1, 0, 1, 1<<20 - 1, 1 << 20} {
					nodes(api.Cap{Kind: kind, Obj: obj, Rights: rights, Badge: badge}, f)
				}
			}
		}
	}
}

// nodes goes over a cap with all bounds of what a node's has, with and without Device.
func nodes(c api.Cap, f func(api.Cap)) {
	for radix := -1; radix <= 5; radix++ {
		for _, g := range [][2]int{{0, 0}, {1, 0}, {-1, 0}, {0, -1}, {0, 1}, {1, 1}, {2, 1}, {-1, 1}, {0, 16}, {65535, 16}, {65536, 16}, {0, 17}, {65536, 17}} {
			c.Radix, c.Guard, c.GuardBits = radix, g[0], g[1]
			c.Device = false
			f(c)
			c.Device = true
			f(c)
		}
	}
}

// rightCaps are the right ones of those at the bounds.
func rightCaps() []api.Cap {
	var all []api.Cap
	everyBound(func(c api.Cap) {
		if modelRight(c) {
			all = append(all, c)
		}
	})
	return all
}
