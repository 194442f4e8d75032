/-
  The contract of slices.SortFunc by package vgic's order, out of the library's. No statement is proved here.
-/
import Derived.Test.YthkieoedidpkaaaVgOrd2
namespace Go.Proofs.Ythkieoedidpkaaa
open Go.RowKit Go.Sort Go.Shelf Go.Lib

theorem agg_lr (w : World) : (isAgg 66).run Try.prog w = .ok true w := by kernel_rfl
theorem sizeof_lr (w : World) : (Go.sizeOf 66).run Try.prog w = .ok 5 w := by kernel_rfl

theorem fr_sort (w : World) (g n : Nat) (d : Array Lr) (os : Array Obj) : Fr (at' g) w (sortWorldK encL 5 w g 0 n d os) := by
  refine ⟨rfl, rfl, rfl, ?_, fun k hk hn => ?_⟩
  · show w.heap.size ≤ ((w.heap.modify g (onCells (putCells id 0 (flatK encL 5 d)))) ++ os).size
    simp
  · have hne : g ≠ k := fun e => hn e.symm
    show ((w.heap.modify g (onCells (putCells id 0 (flatK encL 5 d)))) ++ os)[k]? = w.heap[k]?
    rw [Array.getElem?_append_left (by simpa using hk), Array.getElem?_modify, if_neg hne]

theorem row_sort {w : World} {g : Nat} {cs : Array Value} {t : TypeId} (h : Row w g cs t) (n : Nat) (d : Array Lr) (os : Array Obj) : Row (sortWorldK encL 5 w g 0 n d os) g (putCells id 0 (flatK encL 5 d) cs) t := by
  have h' : w.heap[g]? = some (.cells cs t (0, 0)) := h
  show ((w.heap.modify g (onCells (putCells id 0 (flatK encL 5 d)))) ++ os)[g]? = _
  rw [Array.getElem?_append_left (by simpa using h.lt), Array.getElem?_modify, if_pos rfl, h']
  rfl

/-- Element i of a row of registers. -/
structure RecAt (cs : Array Value) (i : Nat) (x : Lr) : Prop where
  c0 : cs[i * 5]? = some (.int .i64 x.id)
  c1 : cs[i * 5 + 1]? = some (.int .i64 x.p)
  c2 : cs[i * 5 + 2]? = some (.bool x.lv)
  c3 : cs[i * 5 + 3]? = some (.bool x.pe)
  c4 : cs[i * 5 + 4]? = some (.bool x.ac)

theorem flat_at (d : Array Lr) (i r : Nat) (hi : i < d.size) (hr : r < 5) : (flatK encL 5 d)[i * 5 + r]! = (encL d[i]!)[r]! := by
  rw [get_flatK _ _ _ _ (by omega), show (i * 5 + r) / 5 = i by omega, show (i * 5 + r) % 5 = r by omega]

theorem holds_of {w : World} {g : Nat} {cs : Array Value} {t : TypeId} (h : Row w g cs t) (d : Array Lr) (hd : ∀ i, i < d.size → RecAt cs i d[i]!) : HoldsK encL 5 w g 0 d := by
  intro j hj
  rw [size_flatK] at hj
  refine ⟨?_, by rw [Nat.zero_add]; exact h.frozen j⟩
  obtain ⟨i, r, hi, hr, rfl⟩ : ∃ i r, i < d.size ∧ r < 5 ∧ j = i * 5 + r := ⟨j / 5, j % 5, by omega, by omega, by omega⟩
  rw [Nat.zero_add, h.cell, flat_at d i r hi hr]
  have q := hd i hi
  match r, hr with
  | 0, _ => exact q.c0
  | 1, _ => exact q.c1
  | 2, _ => exact q.c2
  | 3, _ => exact q.c3
  | 4, _ => exact q.c4

theorem rec_put (cs : Array Value) (d : Array Lr) (hs : d.size * 5 ≤ cs.size) (i : Nat) (hi : i < d.size) : RecAt (putCells id 0 (flatK encL 5 d) cs) i d[i]! := by
  have q : ∀ r, r < 5 → (putCells id 0 (flatK encL 5 d) cs)[i * 5 + r]? = some (encL d[i]!)[r]! := fun r hr => by
    have hlt : i * 5 + r < cs.size := by omega
    unfold putCells
    rw [Array.getElem?_mapIdx, Array.getElem?_eq_getElem hlt, Option.map_some, if_pos (by rw [size_flatK]; omega), Nat.sub_zero, flat_at d i r hi hr]
    rfl
  exact ⟨q 0 (by omega), q 1 (by omega), q 2 (by omega), q 3 (by omega), q 4 (by omega)⟩

/-- slices.SortFunc by order: what is in the row is put in that order. -/
theorem sort_any {w : World} {g cap : Nat} {cs : Array Value} {t : TypeId} (h : Row w g cs t) (d : Array Lr) (hd : ∀ i, i < d.size → RecAt cs i d[i]!) (hs : d.size * 5 ≤ cs.size) (hn : d.size ≤ 64) :
    Calls Try.prog 57 #[.slice (some ⟨g, 0, none⟩) d.size cap, .func (.func 58) #[] #[]] w fun e w' =>
      e = .returned (.tuple #[]) ∧ ∃ (d' : Array Lr) (cs' : Array Value), d'.size = d.size ∧ d'.toList.Perm d.toList ∧ d'.toList.Pairwise (fun x y => ¬ ltr y x) ∧ Fr (at' g) w w' ∧ Row w' g cs' t ∧ cs'.size = cs.size ∧ ∀ i, i < d'.size → RecAt cs' i d'[i]! := by
  have eg : ∀ args w, (callFunc 58 args).run Try.prog w = .ok (.enter 58 args) w := enters_of Try.func58 (by kernel_rfl) rfl
  have hc := AnyQ.slices_SortFunc Try.sortLr 5 agg_lr sizeof_lr encL (fun _ => rfl) (fun x v hv => by simp [encL] at hv; rcases hv with rfl | rfl | rfl | rfl | rfl <;> rfl) cfL swo_cf 58 #[] g 0 cap d w eg (cmp_lays g 0 d.size w) (holds_of h d hd) h.lt (by omega)
  refine Calls.mono (show Calls Try.prog 57 _ _ _ from hc) ?_
  rintro e w' ⟨rfl, d', n, os, ⟨p1, _, p3⟩, hsd, rfl⟩
  refine ⟨rfl, d', _, p1, ?_, ?_, fr_sort w g n d' os, row_sort h n d' os, by simp [putCells], fun i hi => rec_put cs d' (by omega) i hi⟩
  · have e1 : d'.extract 0 d.size = d' := by rw [← p1]; simp
    have e2 : d.extract 0 d.size = d := by simp
    rw [e1, e2] at p3
    exact p3
  · rw [List.pairwise_iff_getElem]
    intro i j hi hj hij
    have := hsd i j (by omega) hij (by simpa [p1] using hj)
    rw [lt_cf_not] at this
    simp only [Array.length_toList] at hi hj
    simpa [hi, hj] using this

theorem sort_none (p : Option Addr) (cap : Nat) (fv : Value) (w : World) : Calls Try.prog 57 #[.slice p 0 cap, fv] w fun e w' => e = .returned (.tuple #[]) ∧ w' = w :=
  AnyF.slices_SortFunc_none Try.sortLr p cap fv w

end Go.Proofs.Ythkieoedidpkaaa
