package cdt

import (
	"slices"
	"testing"

	"viceroy/api"
)

// dice throws the same numbers in each run.
type dice struct{ x uint64 }

func (d *dice) throw(n int) int {
	d.x = d.x*6364136223846793005 + 1442695040888963407
	return int(d.x >> 33 % uint64(n))
}

// wood is what the chapter says, told in another way: a row of names, each with a wood of its own below it. None is ever changed; what is done makes a new one.
type wood []branch

type branch struct {
	name api.Ref
	kids wood
}

func (w wood) list() []api.Ref {
	var l []api.Ref
	for _, b := range w {
		l = append(append(l, b.name), b.kids.list()...)
	}
	return l
}

func (w wood) has(at api.Ref) bool { return slices.Contains(w.list(), at) }

func (w wood) renamed(as func(api.Ref) api.Ref) wood {
	var n wood
	for _, b := range w {
		n = append(n, branch{as(b.name), b.kids.renamed(as)})
	}
	return n
}

func (w wood) withChild(parent, at api.Ref) wood {
	var n wood
	for _, b := range w {
		kids := b.kids.withChild(parent, at)
		if b.name == parent {
			kids = append(wood{{at, nil}}, kids...)
		}
		n = append(n, branch{b.name, kids})
	}
	return n
}

func (w wood) without(at api.Ref) wood {
	var n wood
	for _, b := range w {
		kids := b.kids.without(at)
		if b.name == at {
			n = append(n, kids...)
		} else {
			n = append(n, branch{b.name, kids})
		}
	}
	return n
}

// way is the names from a root on down to one, that one too; nil, if it is not there.
func (w wood) way(at api.Ref) []api.Ref {
	for _, b := range w {
		if b.name == at {
			return []api.Ref{at}
		}
		if l := b.kids.way(at); l != nil {
			return append([]api.Ref{b.name}, l...)
		}
	}
	return nil
}

func (w wood) kids(at api.Ref) wood {
	for _, b := range w {
		if b.name == at {
			return b.kids
		}
		if k := b.kids.kids(at); k != nil {
			return k
		}
	}
	return nil
}

// deed is a call that may change a forest, with two names, of which Add and Remove take the first one.
type deed struct {
	what string
	a, b api.Ref
}

var deeds = []string{"Add", "Child", "Remove", "Move", "Swap"}

func (d deed) do(f *Tree) api.Errno {
	switch d.what {
	case "Add":
		return f.Add(d.a)
	case "Child":
		return f.Child(d.a, d.b)
	case "Remove":
		return f.Remove(d.a)
	case "Move":
		return f.Move(d.a, d.b)
	}
	return f.Swap(d.a, d.b)
}

func (d deed) refused(w wood) api.Errno {
	a, b := w.has(d.a), w.has(d.b)
	switch {
	case d.what == "Add" && a:
		return api.ErrFull
	case d.what != "Add" && !a, d.what == "Swap" && !b:
		return api.ErrEmpty
	case (d.what == "Child" || d.what == "Move") && b:
		return api.ErrFull
	}
	return api.OK
}

func (d deed) told(w wood) (wood, api.Errno) {
	if e := d.refused(w); e != api.OK {
		return w, e
	}
	switch d.what {
	case "Add":
		return append(wood{{d.a, nil}}, w...), api.OK
	case "Child":
		return w.withChild(d.a, d.b), api.OK
	case "Remove":
		return w.without(d.a), api.OK
	}
	return w.renamed(func(n api.Ref) api.Ref {
		switch {
		case n == d.a:
			return d.b
		case n == d.b:
			return d.a
		}
		return n
	}), api.OK
}

// looks holds all that a forest tells of some names against a wood.
func looks(t *testing.T, f *Tree, w wood, names []api.Ref) {
	t.Helper()
	if got := f.List(); !slices.Equal(got, w.list()) {
		t.Fatalf("List() = %v; want %v", got, w.list())
	}
	for _, n := range names {
		way := w.way(n)
		if got := f.Has(n); got != (way != nil) {
			t.Fatalf("Has(%v) = %v in %v", n, got, w)
		}
		if got := f.Depth(n); got != len(way)-1 {
			t.Fatalf("Depth(%v) = %d in %v", n, got, w)
		}
		var up api.Ref
		if len(way) > 1 {
			up = way[len(way)-2]
		}
		if p, ok := f.Parent(n); p != up || ok != (len(way) > 1) {
			t.Fatalf("Parent(%v) = %v, %v in %v", n, p, ok, w)
		}
		looksBelow(t, f, w, n, names)
	}
}

func looksBelow(t *testing.T, f *Tree, w wood, n api.Ref, names []api.Ref) {
	t.Helper()
	kids := w.kids(n)
	var first api.Ref
	if len(kids) > 0 {
		first = kids[0].name
	}
	if c, ok := f.First(n); c != first || ok != (len(kids) > 0) {
		t.Fatalf("First(%v) = %v, %v in %v", n, c, ok, w)
	}
	if got := f.Descendants(n); !slices.Equal(got, kids.list()) {
		t.Fatalf("Descendants(%v) = %v in %v", n, got, w)
	}
	for _, m := range names {
		if got := f.Below(n, m); got != kids.has(m) {
			t.Fatalf("Below(%v, %v) = %v in %v", n, m, got, w)
		}
	}
}

// grown makes the forest that a wood is: what comes last is added first.
func grown(t *testing.T, w wood) *Tree {
	t.Helper()
	f := New()
	for _, b := range slices.Backward(w) {
		answers(t, "Add", f.Add(b.name), api.OK)
		grow(t, f, b)
	}
	return f
}

func grow(t *testing.T, f *Tree, b branch) {
	t.Helper()
	for _, k := range slices.Backward(b.kids) {
		answers(t, "Child", f.Child(b.name, k.name), api.OK)
		grow(t, f, k)
	}
}

// woods are all that have these names, and no other ones, in every order.
func woods(names []api.Ref) []wood {
	if len(names) == 0 {
		return []wood{nil}
	}
	var all []wood
	for i, n := range names {
		rest := slices.Delete(slices.Clone(names), i, i+1)
		// Each of the rest is below the first root, or behind it.
		for side := range 1 << len(rest) {
			var under, after []api.Ref
			for j, r := range rest {
				if side>>j&1 == 1 {
					under = append(under, r)
				} else {
					after = append(after, r)
				}
			}
			for _, u := range woods(under) {
				for _, a := range woods(after) {
					all = append(all, append(wood{{n, u}}, a...))
				}
			}
		}
	}
	return all
}

func everyDeed(names []api.Ref) []deed {
	var all []deed
	for _, what := range deeds {
		for _, a := range names {
			for _, b := range names {
				all = append(all, deed{what, a, b})
			}
		}
	}
	return all
}

func TestEveryForestOfFewNames(t *testing.T) {
	names := []api.Ref{{}, ref(0, 1), ref(1, 0), ref(1, 1)}
	total := 0
	for size := range 1 << len(names) {
		var in []api.Ref
		for i, n := range names {
			if size>>i&1 == 1 {
				in = append(in, n)
			}
		}
		for _, w := range woods(in) {
			total++
			looks(t, grown(t, w), w, names)
			for _, d := range everyDeed(names) {
				f := grown(t, w)
				after, want := d.told(w)
				if e := d.do(f); e != want {
					t.Fatalf("%v of %v: %v; want %v", d, w, e, want)
				}
				looks(t, f, after, names)
			}
		}
	}
	// Of n names there are n! times the n-th Catalan number.
	if want := 1 + 4*1 + 6*2*2 + 4*6*5 + 24*14; total != want {
		t.Errorf("%d forests; want %d", total, want)
	}
}

func TestLongRowsOfCalls(t *testing.T) {
	names := []api.Ref{{}}
	for i := range 11 {
		names = append(names, ref(i%4, 1+i/4))
	}
	names = append(names, ref(-1, -1), ref(farNumbers[0], farNumbers[len(farNumbers)-1]))
	for seed := range 40 {
		d := dice{x: uint64(seed)}
		f, w := New(), wood(nil)
		for range 250 {
			// A child is asked for more often, else forests stay flat.
			what := "Child"
			if d.throw(3) > 0 {
				what = deeds[d.throw(len(deeds))]
			}
			c := deed{what, names[d.throw(len(names))], names[d.throw(len(names))]}
			after, want := c.told(w)
			if e := c.do(f); e != want {
				t.Fatalf("%v of %v: %v; want %v", c, w, e, want)
			}
			w = after
			looks(t, f, w, names)
		}
	}
}
