package cdt

import (
	"math"
	"slices"
	"testing"

	"viceroy/api"
)

// farNumbers are such as no node and no index has; a name is a name whatever stands in it.
var farNumbers = []int{math.MinInt, math.MinInt + 1, -1 << 32, -1, 0, 1, 1 << 16, 1 << 32, 1<<32 + 1, 1 << 62, math.MaxInt - 1, math.MaxInt}

var (
	a = ref(1, 0)
	b = ref(2, 0)
	c = ref(3, 0)
	d = ref(4, 0)
	e = ref(5, 0)
	x = ref(6, 0)
	y = ref(7, 0)

	noRef = api.Ref{}
)

func ref(node, index int) api.Ref { return api.Ref{Node: node, Index: index} }

// answers asks for an error; want is api.OK for none.
func answers(t *testing.T, what string, got, want api.Errno) {
	t.Helper()
	if got != want {
		t.Errorf("%s: %v; want %v", what, got, want)
	}
}

func add(t *testing.T, f *Tree, at api.Ref) {
	t.Helper()
	answers(t, "Add", f.Add(at), api.OK)
}

func child(t *testing.T, f *Tree, parent, at api.Ref) {
	t.Helper()
	answers(t, "Child", f.Child(parent, at), api.OK)
}

func remove(t *testing.T, f *Tree, at api.Ref) {
	t.Helper()
	answers(t, "Remove", f.Remove(at), api.OK)
}

func lists(t *testing.T, f *Tree, want ...api.Ref) {
	t.Helper()
	if got := f.List(); !slices.Equal(got, want) {
		t.Errorf("List() = %v; want %v", got, want)
	}
}

func descends(t *testing.T, f *Tree, at api.Ref, want ...api.Ref) {
	t.Helper()
	if got := f.Descendants(at); !slices.Equal(got, want) {
		t.Errorf("Descendants(%v) = %v; want %v", at, got, want)
	}
}

func hasParent(t *testing.T, f *Tree, at, want api.Ref) {
	t.Helper()
	if p, ok := f.Parent(at); p != want || !ok {
		t.Errorf("Parent(%v) = %v, %v; want %v", at, p, ok, want)
	}
}

func hasNoParent(t *testing.T, f *Tree, at api.Ref) {
	t.Helper()
	if p, ok := f.Parent(at); p != noRef || ok {
		t.Errorf("Parent(%v) = %v, %v; want none", at, p, ok)
	}
}

func hasFirst(t *testing.T, f *Tree, at, want api.Ref) {
	t.Helper()
	if p, ok := f.First(at); p != want || !ok {
		t.Errorf("First(%v) = %v, %v; want %v", at, p, ok, want)
	}
}

func hasNoFirst(t *testing.T, f *Tree, at api.Ref) {
	t.Helper()
	if p, ok := f.First(at); p != noRef || ok {
		t.Errorf("First(%v) = %v, %v; want none", at, p, ok)
	}
}

func depth(t *testing.T, f *Tree, at api.Ref, want int) {
	t.Helper()
	if got := f.Depth(at); got != want {
		t.Errorf("Depth(%v) = %d; want %d", at, got, want)
	}
}

// example is the chapter's: b, a with d and c, and e below c.
func example(t *testing.T) *Tree {
	t.Helper()
	f := New()
	add(t, f, a)
	add(t, f, b)
	child(t, f, a, c)
	child(t, f, a, d)
	child(t, f, c, e)
	return f
}

func TestExamples(t *testing.T) {
	f := example(t)
	lists(t, f, b, a, d, c, e)
	remove(t, f, c)
	lists(t, f, b, a, d, e)
	hasParent(t, f, e, a)
	answers(t, "Move", f.Move(a, c), api.OK)
	answers(t, "Swap", f.Swap(b, d), api.OK)
	lists(t, f, d, c, b, e)
	answers(t, "Child(x, y)", f.Child(x, y), api.ErrEmpty)
	answers(t, "Add(d)", f.Add(d), api.ErrFull)
	answers(t, "Remove(x)", f.Remove(x), api.ErrEmpty)
	answers(t, "Move(d, c)", f.Move(d, c), api.ErrFull)
	lists(t, f, d, c, b, e)
}

func TestErrorNumbers(t *testing.T) {
	if api.ErrFull != 130 || api.ErrEmpty != 131 {
		t.Error(int(api.ErrFull), int(api.ErrEmpty))
	}
}

func TestJ1NewHasNothing(t *testing.T) {
	f := New()
	lists(t, f)
	for _, n := range []api.Ref{noRef, a} {
		if f.Has(n) || f.Below(n, n) {
			t.Error("a name is there", n)
		}
		depth(t, f, n, -1)
		hasNoParent(t, f, n)
		hasNoFirst(t, f, n)
		descends(t, f, n)
	}
}

func TestJ1TwoForestsShareNothing(t *testing.T) {
	f, g := New(), New()
	add(t, f, a)
	lists(t, g)
	add(t, g, a)
	child(t, g, a, b)
	lists(t, f, a)
}

func TestJ1NewOnesStandAhead(t *testing.T) {
	f := New()
	add(t, f, a)
	add(t, f, b)
	add(t, f, c)
	lists(t, f, c, b, a)
	child(t, f, b, d)
	child(t, f, b, e)
	lists(t, f, c, b, e, d, a)
	add(t, f, x)
	lists(t, f, x, c, b, e, d, a)
	hasNoParent(t, f, x)
	child(t, f, d, y)
	lists(t, f, x, c, b, e, d, y, a)
	hasParent(t, f, y, d)
}

func TestJ1Refusals(t *testing.T) {
	f := example(t)
	for _, n := range []api.Ref{a, b, c, d, e} {
		answers(t, "Add of what is there", f.Add(n), api.ErrFull)
		answers(t, "a child of itself", f.Child(n, n), api.ErrFull)
		answers(t, "a child of nobody", f.Child(x, n), api.ErrEmpty)
	}
	answers(t, "a parent below its child", f.Child(e, a), api.ErrFull)
	answers(t, "a root as a child", f.Child(a, b), api.ErrFull)
	answers(t, "of nobody, and nobody", f.Child(x, y), api.ErrEmpty)
	answers(t, "nobody of itself", f.Child(x, x), api.ErrEmpty)
	lists(t, f, b, a, d, c, e)
}

func TestJ2ChildrenStandInThePlace(t *testing.T) {
	f := New()
	add(t, f, a)
	for _, n := range []api.Ref{d, c, b} {
		child(t, f, a, n)
	}
	child(t, f, c, y)
	child(t, f, c, x)
	child(t, f, x, e)
	lists(t, f, a, b, c, x, e, y, d)
	remove(t, f, c)
	lists(t, f, a, b, x, e, y, d)
	for _, n := range []api.Ref{b, x, y, d} {
		hasParent(t, f, n, a)
		depth(t, f, n, 1)
	}
	hasParent(t, f, e, x)
	depth(t, f, e, 2)
	descends(t, f, b)
}

func TestJ2ChildrenOfARootAreRoots(t *testing.T) {
	f := example(t)
	remove(t, f, a)
	lists(t, f, b, d, c, e)
	for _, n := range []api.Ref{b, d, c} {
		hasNoParent(t, f, n)
		depth(t, f, n, 0)
	}
	hasParent(t, f, e, c)
	descends(t, f, b)
	add(t, f, a)
	lists(t, f, a, b, d, c, e)
	descends(t, f, a)
}

func TestJ2TheLastAndTheFirst(t *testing.T) {
	f := example(t)
	remove(t, f, e)
	lists(t, f, b, a, d, c)
	hasNoFirst(t, f, c)
	remove(t, f, b)
	lists(t, f, a, d, c)
	child(t, f, c, e)
	lists(t, f, a, d, c, e)
	for _, n := range []api.Ref{a, c, d, e} {
		remove(t, f, n)
		if f.Has(n) {
			t.Error("still there", n)
		}
		answers(t, "Remove again", f.Remove(n), api.ErrEmpty)
	}
	lists(t, f)
	add(t, f, e)
	lists(t, f, e)
}

func TestJ3Move(t *testing.T) {
	f := example(t)
	answers(t, "Move", f.Move(c, x), api.OK)
	lists(t, f, b, a, d, x, e)
	hasParent(t, f, x, a)
	hasParent(t, f, e, x)
	hasFirst(t, f, x, e)
	depth(t, f, x, 1)
	depth(t, f, c, -1)
	if f.Has(c) || !f.Has(x) || !f.Below(x, e) || f.Below(c, e) {
		t.Error("c is there, or x is not")
	}
	answers(t, "Move of what is gone", f.Move(c, y), api.ErrEmpty)
	answers(t, "the name is free", f.Child(x, c), api.OK)
	lists(t, f, b, a, d, x, c, e)
}

func TestJ3MoveRefusals(t *testing.T) {
	f := example(t)
	answers(t, "onto itself", f.Move(a, a), api.ErrFull)
	answers(t, "onto its child", f.Move(a, c), api.ErrFull)
	answers(t, "onto another root", f.Move(a, b), api.ErrFull)
	answers(t, "nobody onto one", f.Move(x, a), api.ErrEmpty)
	answers(t, "nobody onto nobody", f.Move(x, y), api.ErrEmpty)
	answers(t, "nobody onto itself", f.Move(x, x), api.ErrEmpty)
	lists(t, f, b, a, d, c, e)
}

func TestJ3Swap(t *testing.T) {
	f := example(t)
	answers(t, "a parent and its child", f.Swap(a, c), api.OK)
	lists(t, f, b, c, d, a, e)
	hasNoParent(t, f, c)
	hasParent(t, f, a, c)
	hasParent(t, f, e, a)
	hasParent(t, f, d, c)
	answers(t, "a root and one two below another", f.Swap(e, b), api.OK)
	lists(t, f, e, c, d, a, b)
	hasParent(t, f, b, a)
	hasNoParent(t, f, e)
	depth(t, f, e, 0)
	depth(t, f, b, 2)
	answers(t, "neighbours of one parent", f.Swap(d, a), api.OK)
	lists(t, f, e, c, a, d, b)
	hasParent(t, f, b, d)
}

func TestJ3SwapRefusals(t *testing.T) {
	f := example(t)
	answers(t, "one that is not there, second", f.Swap(a, x), api.ErrEmpty)
	answers(t, "one that is not there, first", f.Swap(x, a), api.ErrEmpty)
	answers(t, "two that are not there", f.Swap(x, y), api.ErrEmpty)
	answers(t, "nobody with itself", f.Swap(x, x), api.ErrEmpty)
	for _, n := range []api.Ref{a, b, c, d, e} {
		answers(t, "one with itself", f.Swap(n, n), api.OK)
		if !f.Has(n) {
			t.Error("gone", n)
		}
	}
	lists(t, f, b, a, d, c, e)
}

func TestJ4(t *testing.T) {
	f := example(t)
	for n, want := range map[api.Ref]int{a: 0, b: 0, c: 1, d: 1, e: 2, x: -1, noRef: -1} {
		depth(t, f, n, want)
		if f.Has(n) != (want >= 0) {
			t.Error("Has", n)
		}
	}
	hasNoParent(t, f, a)
	hasNoParent(t, f, b)
	hasNoParent(t, f, x)
	hasParent(t, f, c, a)
	hasParent(t, f, d, a)
	hasParent(t, f, e, c)
	below := map[[2]api.Ref]int{{a, c}: 1, {a, d}: 1, {a, e}: 1, {c, e}: 1}
	for _, m := range []api.Ref{a, b, c, d, e, x, noRef} {
		for _, n := range []api.Ref{a, b, c, d, e, x, noRef} {
			if got := f.Below(m, n); got != (below[[2]api.Ref{m, n}] == 1) {
				t.Errorf("Below(%v, %v) = %v", m, n, got)
			}
		}
	}
}

// The zero name is a name as any other one; where there is none, a bool says so.
func TestJ4TheZeroName(t *testing.T) {
	f := New()
	add(t, f, a)
	child(t, f, a, noRef)
	child(t, f, noRef, b)
	lists(t, f, a, noRef, b)
	hasParent(t, f, b, noRef)
	hasFirst(t, f, a, noRef)
	depth(t, f, noRef, 1)
	if !f.Below(a, noRef) || !f.Below(noRef, b) || f.Below(noRef, noRef) {
		t.Error("who is below whom")
	}
	answers(t, "Add", f.Add(noRef), api.ErrFull)
	answers(t, "Swap", f.Swap(noRef, a), api.OK)
	lists(t, f, noRef, a, b)
	hasNoParent(t, f, noRef)
	remove(t, f, noRef)
	lists(t, f, a, b)
	hasNoParent(t, f, a)
}

func TestJ5(t *testing.T) {
	f := example(t)
	hasFirst(t, f, a, d)
	hasFirst(t, f, c, e)
	for _, n := range []api.Ref{b, d, e, x, noRef} {
		hasNoFirst(t, f, n)
		descends(t, f, n)
	}
	descends(t, f, a, d, c, e)
	descends(t, f, c, e)
	child(t, f, d, x)
	child(t, f, b, y)
	lists(t, f, b, y, a, d, x, c, e)
	descends(t, f, a, d, x, c, e)
	descends(t, f, b, y)
}

func TestJ6UndoneChangesNothing(t *testing.T) {
	names := []api.Ref{a, b, c, d, e}
	for _, m := range names {
		f := example(t)
		w := wood{{b, nil}, {a, wood{{d, nil}, {c, wood{{e, nil}}}}}}
		all := append([]api.Ref{x}, names...)
		answers(t, "there", f.Move(m, x), api.OK)
		answers(t, "and back", f.Move(x, m), api.OK)
		looks(t, f, w, all)
		answers(t, "made", f.Child(m, x), api.OK)
		answers(t, "and removed", f.Remove(x), api.OK)
		looks(t, f, w, all)
		for _, n := range names {
			answers(t, "swapped", f.Swap(m, n), api.OK)
			answers(t, "twice", f.Swap(n, m), api.OK)
			looks(t, f, w, all)
			answers(t, "swapped", f.Swap(m, n), api.OK)
			answers(t, "twice", f.Swap(m, n), api.OK)
			looks(t, f, w, all)
		}
	}
}

func TestR1AnyNames(t *testing.T) {
	f := New()
	add(t, f, a)
	var names []api.Ref
	for _, node := range farNumbers {
		for _, index := range farNumbers {
			n := ref(node, index)
			if n == a {
				continue
			}
			child(t, f, a, n)
			hasParent(t, f, n, a)
			hasFirst(t, f, a, n)
			names = append(names, n)
		}
	}
	slices.Reverse(names)
	descends(t, f, a, names...)
}

func TestR3ErrorsChangeNothing(t *testing.T) {
	w := wood{{b, nil}, {a, wood{{d, nil}, {c, wood{{e, nil}}}}}}
	names := []api.Ref{a, b, c, d, e, x, y, noRef}
	f := example(t)
	refused := 0
	for _, d := range everyDeed(names) {
		if d.refused(w) == api.OK {
			continue
		}
		refused++
		answers(t, d.what, d.do(f), d.refused(w))
		looks(t, f, w, names)
	}
	if refused == 0 {
		t.Error("none was refused")
	}
}

func TestR5AnswersAreNewMemory(t *testing.T) {
	f := example(t)
	for _, l := range [][]api.Ref{f.List(), f.Descendants(a), f.Descendants(c)} {
		for i := range l {
			l[i] = x
		}
		_ = append(l, y)
	}
	lists(t, f, b, a, d, c, e)
	descends(t, f, a, d, c, e)
	kept := f.List()
	remove(t, f, a)
	answers(t, "Move", f.Move(b, x), api.OK)
	if !slices.Equal(kept, []api.Ref{b, a, d, c, e}) {
		t.Error("an answer was changed later", kept)
	}
}

// A chain as deep as what is promised at all, taken away from below, and a name with as many children.
func TestDeepAndWide(t *testing.T) {
	const many = 1 << 16
	f := New()
	add(t, f, ref(0, 0))
	for i := range many - 1 {
		if f.Child(ref(i, 0), ref(i+1, 0)) != api.OK {
			t.Fatal("no child", i+1)
		}
	}
	depth(t, f, ref(many-1, 0), many-1)
	if !f.Below(ref(0, 0), ref(many-1, 0)) || f.Below(ref(many-1, 0), ref(0, 0)) {
		t.Error("who is below whom")
	}
	if l := f.List(); len(l) != many || l[many-1] != ref(many-1, 0) {
		t.Error("the list", len(l))
	}
	remove(t, f, ref(0, 0))
	depth(t, f, ref(many-1, 0), many-2)
	for i := range many - 2 {
		if f.Remove(ref(many-1-i, 0)) != api.OK {
			t.Fatal("not removed", many-1-i)
		}
	}
	lists(t, f, ref(1, 0))
	for i := range many {
		if f.Child(ref(1, 0), ref(i, 1)) != api.OK {
			t.Fatal("no child", i)
		}
	}
	hasFirst(t, f, ref(1, 0), ref(many-1, 1))
	hasParent(t, f, ref(0, 1), ref(1, 0))
	remove(t, f, ref(1, 0))
	hasNoParent(t, f, ref(0, 1))
	if l := f.List(); len(l) != many || l[0] != ref(many-1, 1) || l[many-1] != ref(0, 1) {
		t.Error("the list", len(l))
	}
}
