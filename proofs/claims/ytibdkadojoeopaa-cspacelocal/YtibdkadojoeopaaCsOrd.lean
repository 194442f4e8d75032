/-
  Contracts of cmp.Compare, cmp.Or and package cspace's byPlace over the translation; slices.SortFunc by it, out of the library's. No statement is proved here.
-/
import Derived.Test.YtibdkadojoeopaaCsLook
import Derived.Test.YtibdkadojoeopaaShelf
import Derived.Deep.RegionHeld3
namespace Go.Proofs.Ytibdkadojoeopaa
open Go.RowKit Go.Sort Go.Shelf Go.Lib

def cmpI (x y : Int) : Int := if x < y then -1 else if y < x then 1 else 0

set_option maxHeartbeats 400000 in
theorem isnan_any (x : Int) (w : World) : Calls Try.prog 64 #[.int .i64 x] w fun e w' => e = .returned (.bool false) ∧ w' = w := by
  have t : (x != x) = false := by simp
  go_enter Try.func64, Try.ntmps64
  go_wp2
  go_ret
  first | exact ⟨rfl, rfl⟩ | exact ⟨by rw [t], rfl⟩

set_option maxHeartbeats 1000000 in
theorem compare_any (x y : Int) (w : World) : Calls Try.prog 49 #[.int .i64 x, .int .i64 y] w fun e w' => e = .returned (.int .i64 (cmpI x y)) ∧ w' = w := by
  unfold cmpI
  by_cases h1 : x < y
  · rw [if_pos h1]
    have u1 : decide (x < y) = true := decide_eq_true h1
    go_enter Try.func49, Try.ntmps49
    go_wp2_with (first | (go_at_call 64; refine (isnan_any _ _).mono ?_; rintro e w1 ⟨rfl, rfl⟩))
    go_ret
    exact ⟨rfl, rfl⟩
  · rw [if_neg h1]
    have u1 : decide (x < y) = false := decide_eq_false h1
    by_cases h2 : y < x
    · rw [if_pos h2]
      have u2 : decide (y < x) = true := decide_eq_true h2
      go_enter Try.func49, Try.ntmps49
      go_wp2_with (first | (go_at_call 64; refine (isnan_any _ _).mono ?_; rintro e w1 ⟨rfl, rfl⟩))
      go_ret
      exact ⟨rfl, rfl⟩
    · rw [if_neg h2]
      have u2 : decide (y < x) = false := decide_eq_false h2
      go_enter Try.func49, Try.ntmps49
      go_wp2_with (first | (go_at_call 64; refine (isnan_any _ _).mono ?_; rintro e w1 ⟨rfl, rfl⟩))
      go_ret
      exact ⟨rfl, rfl⟩

def orI (a b : Int) : Int := if a ≠ 0 then a else b

set_option maxHeartbeats 1000000 in
theorem or_any (g : Nat) (a b : Int) (w : World) (r : Row w g #[.int .i64 a, .int .i64 b] 3) : Calls Try.prog 48 #[.slice (some ⟨g, 0, none⟩) 2 2] w fun e w' => e = .returned (.int .i64 (orI a b)) ∧ w' = w := by
  unfold orI
  have c0 := r.cell 0
  have c1 := r.cell 1
  clear r
  by_cases ha : a = 0
  · subst ha
    rw [if_neg (by simp)]
    by_cases hb : b = 0
    · subst hb
      go_enter Try.func48, Try.ntmps48
      go_wp2_with fail
      refine wp_loop_rounds 3 ?_
      rw [rounds_succ]
      go_wp2_with fail
      rw [rounds_succ]
      go_wp2_with fail
      rw [rounds_succ]
      go_wp2_with fail
      go_ret
      exact ⟨rfl, rfl⟩
    · have u : (b != 0) = true := by simpa using hb
      go_enter Try.func48, Try.ntmps48
      go_wp2_with fail
      refine wp_loop_rounds 2 ?_
      rw [rounds_succ]
      go_wp2_with fail
      rw [rounds_succ]
      go_wp2_with fail
      go_ret
      exact ⟨rfl, rfl⟩
  · rw [if_pos ha]
    have u : (a != 0) = true := by simpa using ha
    go_enter Try.func48, Try.ntmps48
    go_wp2_with fail
    refine wp_loop_rounds 1 ?_
    rw [rounds_succ]
    go_wp2_with fail
    go_ret
    exact ⟨rfl, rfl⟩

instance : Inhabited Rf := ⟨⟨0, 0⟩⟩
def encR (x : Rf) : List Value := [.int .i64 x.n, .int .i64 x.i]
def cfR (x y : Rf) : Int := orI (cmpI x.n y.n) (cmpI x.i y.i)
def ltR (x y : Rf) : Prop := x.n < y.n ∨ x.n = y.n ∧ x.i < y.i

theorem lt_cf (x y : Rf) : ltOf cfR x y = true ↔ ltR x y := by
  unfold ltOf cfR ltR orI cmpI
  by_cases h1 : x.n < y.n
  · simp [h1]
  · by_cases h2 : y.n < x.n
    · simp [h1, h2]; omega
    · by_cases h3 : x.i < y.i
      · simp [h1, h2, h3]; omega
      · by_cases h4 : y.i < x.i
        · simp [h1, h2, h3, h4]
        · simp [h1, h2, h3, h4]

theorem lt_cf_not (x y : Rf) : ltOf cfR x y = false ↔ ¬ ltR x y := by
  rw [← lt_cf]
  simp

theorem swo_cf : SWO (ltOf cfR) where
  irrefl x := (lt_cf_not x x).mpr (by unfold ltR; omega)
  trans x y z h1 h2 := by
    rw [lt_cf] at *
    unfold ltR at *
    omega
  ntrans x y z h1 h2 := by
    rw [lt_cf_not] at *
    unfold ltR at *
    omega

/-- Draws and new blocks alone. -/
def Grows (W w' : World) : Prop := ∃ q os', w' = grow (W.drewN q) os'
theorem Grows.refl (W : World) : Grows W W := ⟨0, #[], by rw [grow_empty]; rfl⟩
theorem Grows.alloc {W w' : World} (h : Grows W w') (o : Obj) : Grows W (w'.alloc o) := by
  obtain ⟨q, os, rfl⟩ := h
  exact ⟨q, os ++ #[o], by rw [alloc_eq_grow, grow_grow]⟩
theorem Grows.drew {W w' : World} (h : Grows W w') : Grows W w'.drew := by
  obtain ⟨q, os, rfl⟩ := h
  exact ⟨q + 1, os, rfl⟩
theorem Grows.drewN {W w' : World} (h : Grows W w') (n : Nat) : Grows W (w'.drewN n) := by
  obtain ⟨q, os, rfl⟩ := h
  refine ⟨q + n, os, ?_⟩
  simp only [World.drewN, grow, Nat.add_assoc]

theorem row_two (w : World) (o : Obj) (cs : Array Value) (t : TypeId) : Row ((w.alloc o).alloc (.cells cs t)) (w.heap.size + 1) cs t := by
  have := row_alloc (w.alloc o) cs t
  rwa [show (w.alloc o).heap.size = w.heap.size + 1 by simp] at this

set_option maxHeartbeats 4000000 in
theorem order_any (x y : Rf) (W : World) : Calls Try.prog 36 #[.agg (encR x).toArray, .agg (encR y).toArray] W fun e w' => e = .returned (.int .i64 (cfR x y)) ∧ Grows W w' := by
  obtain ⟨i, p⟩ := x
  obtain ⟨i', p'⟩ := y
  show Calls Try.prog 36 #[.agg #[.int .i64 i, .int .i64 p], .agg #[.int .i64 i', .int .i64 p']] W fun e w' => e = .returned (.int .i64 (orI (cmpI i i') (cmpI p p'))) ∧ Grows W w'
  have ga := ((Grows.refl W).alloc (.cells #[.int .i64 i, .int .i64 p] 32)).alloc (.cells #[.int .i64 i', .int .i64 p'] 32)
  have r1 := (row_alloc W #[.int .i64 i, .int .i64 p] 32).alloc (.cells #[.int .i64 i', .int .i64 p'] 32)
  have r2 := row_two W (.cells #[.int .i64 i, .int .i64 p] 32) #[.int .i64 i', .int .i64 p'] 32
  go_enter Try.func36, Try.ntmps36
  go_wp2_with fail
  generalize ((W.alloc (.cells #[.int .i64 i, .int .i64 p] 32)).alloc (.cells #[.int .i64 i', .int .i64 p'] 32)) = V at ga r1 r2 ⊢
  have c0 := r1.cell 0
  have c1 := r1.cell 1
  have d0 := r2.cell 0
  have d1 := r2.cell 1
  have HG : Hid (∀ u v : Int, Grows W (V.alloc (.cells #[.int .i64 u, .int .i64 v] 3)).drew) := fun u v => (ga.alloc _).drew
  clear r1 r2 ga
  go_region_held3 (fun w' => w'.cell? ⟨W.heap.size, 0, none⟩ = some (.int .i64 i) ∧ w'.cell? ⟨W.heap.size, 1, none⟩ = some (.int .i64 p) ∧ w'.cell? ⟨W.heap.size + 1, 0, none⟩ = some (.int .i64 i') ∧ w'.cell? ⟨W.heap.size + 1, 1, none⟩ = some (.int .i64 p')) (first | with_reducible exact ⟨c0, c1, d0, d1⟩ | go_keep) (first | (go_at_call 49; refine (compare_any _ _ _).mono ?_; rintro e w1 ⟨rfl, rfl⟩) | (go_at_call 48; refine (or_any V.heap.size (cmpI i i') (cmpI p p') _ (Row.drew (row_alloc V #[.int .i64 (cmpI i i'), .int .i64 (cmpI p p')] 3))).mono ?_; rintro e w1 ⟨rfl, rfl⟩))
  all_goals
    go_wp2_with fail
    go_ret
    exact ⟨rfl, HG.out _ _⟩

theorem cmp_lays (blk off size : Nat) (w : World) : CmpLays Try.prog 36 #[] encR 2 cfR blk off size w := fun _ _ _ _ x y => order_any x y _

theorem agg_ref (w : World) : (isAgg 32).run Try.prog w = .ok true w := by kernel_rfl
theorem sizeof_ref (w : World) : (Go.sizeOf 32).run Try.prog w = .ok 2 w := by kernel_rfl

theorem fr_sort (w : World) (g n : Nat) (d : Array Rf) (os : Array Obj) : Fr (at' g) w (sortWorldK encR 2 w g 0 n d os) := by
  refine ⟨rfl, rfl, rfl, ?_, fun k hk hn => ?_⟩
  · show w.heap.size ≤ ((w.heap.modify g (onCells (putCells id 0 (flatK encR 2 d)))) ++ os).size
    simp
  · have hne : g ≠ k := fun e => hn e.symm
    show ((w.heap.modify g (onCells (putCells id 0 (flatK encR 2 d)))) ++ os)[k]? = w.heap[k]?
    rw [Array.getElem?_append_left (by simpa using hk), Array.getElem?_modify, if_neg hne]

theorem row_sort {w : World} {g : Nat} {cs : Array Value} {t : TypeId} (h : Row w g cs t) (n : Nat) (d : Array Rf) (os : Array Obj) : Row (sortWorldK encR 2 w g 0 n d os) g (putCells id 0 (flatK encR 2 d) cs) t := by
  have h' : w.heap[g]? = some (.cells cs t (0, 0)) := h
  show ((w.heap.modify g (onCells (putCells id 0 (flatK encR 2 d)))) ++ os)[g]? = _
  rw [Array.getElem?_append_left (by simpa using h.lt), Array.getElem?_modify, if_pos rfl, h']
  rfl

/-- Element i of a row of registers. -/
structure RecAt (cs : Array Value) (i : Nat) (x : Rf) : Prop where
  c0 : cs[i * 2]? = some (.int .i64 x.n)
  c1 : cs[i * 2 + 1]? = some (.int .i64 x.i)

theorem flat_at (d : Array Rf) (i r : Nat) (hi : i < d.size) (hr : r < 2) : (flatK encR 2 d)[i * 2 + r]! = (encR d[i]!)[r]! := by
  rw [get_flatK _ _ _ _ (by omega), show (i * 2 + r) / 2 = i by omega, show (i * 2 + r) % 2 = r by omega]

theorem holds_of {w : World} {g : Nat} {cs : Array Value} {t : TypeId} (h : Row w g cs t) (d : Array Rf) (hd : ∀ i, i < d.size → RecAt cs i d[i]!) : HoldsK encR 2 w g 0 d := by
  intro j hj
  rw [size_flatK] at hj
  refine ⟨?_, by rw [Nat.zero_add]; exact h.frozen j⟩
  obtain ⟨i, r, hi, hr, rfl⟩ : ∃ i r, i < d.size ∧ r < 2 ∧ j = i * 2 + r := ⟨j / 2, j % 2, by omega, by omega, by omega⟩
  rw [Nat.zero_add, h.cell, flat_at d i r hi hr]
  have q := hd i hi
  match r, hr with
  | 0, _ => exact q.c0
  | 1, _ => exact q.c1

theorem rec_put (cs : Array Value) (d : Array Rf) (hs : d.size * 2 ≤ cs.size) (i : Nat) (hi : i < d.size) : RecAt (putCells id 0 (flatK encR 2 d) cs) i d[i]! := by
  have q : ∀ r, r < 2 → (putCells id 0 (flatK encR 2 d) cs)[i * 2 + r]? = some (encR d[i]!)[r]! := fun r hr => by
    have hlt : i * 2 + r < cs.size := by omega
    unfold putCells
    rw [Array.getElem?_mapIdx, Array.getElem?_eq_getElem hlt, Option.map_some, if_pos (by rw [size_flatK]; omega), Nat.sub_zero, flat_at d i r hi hr]
    rfl
  exact ⟨q 0 (by omega), q 1 (by omega)⟩

/-- slices.SortFunc by order: what is in the row is put in that order. -/
theorem sort_any {w : World} {g cap : Nat} {cs : Array Value} {t : TypeId} (h : Row w g cs t) (d : Array Rf) (hd : ∀ i, i < d.size → RecAt cs i d[i]!) (hs : d.size * 2 ≤ cs.size) (hn : d.size ≤ 16384) :
    Calls Try.prog 35 #[.slice (some ⟨g, 0, none⟩) d.size cap, .func (.func 36) #[] #[]] w fun e w' =>
      e = .returned (.tuple #[]) ∧ ∃ (d' : Array Rf) (cs' : Array Value), d'.size = d.size ∧ d'.toList.Perm d.toList ∧ d'.toList.Pairwise (fun x y => ¬ ltR y x) ∧ Fr (at' g) w w' ∧ Row w' g cs' t ∧ cs'.size = cs.size ∧ ∀ i, i < d'.size → RecAt cs' i d'[i]! := by
  have eg : ∀ args w, (callFunc 36 args).run Try.prog w = .ok (.enter 36 args) w := enters_of Try.func36 (by kernel_rfl) rfl
  have hc := AnyQ.slices_SortFunc Try.sortLr 2 agg_ref sizeof_ref encR (fun _ => rfl) (fun x v hv => by simp [encR] at hv; rcases hv with rfl | rfl <;> rfl) cfR swo_cf 36 #[] g 0 cap d w eg (cmp_lays g 0 d.size w) (holds_of h d hd) h.lt (by omega)
  refine Calls.mono (show Calls Try.prog 35 _ _ _ from hc) ?_
  rintro e w' ⟨rfl, d', n, os, ⟨p1, _, p3⟩, hsd, rfl⟩
  refine ⟨rfl, d', _, p1, ?_, ?_, fr_sort w g n d' os, row_sort h n d' os, by simp [putCells], fun i hi => rec_put cs d' (by omega) i hi⟩
  · have e1 : d'.extract 0 d.size = d' := by rw [← p1]; simp
    have e2 : d.extract 0 d.size = d := by simp
    rw [e1, e2] at p3
    exact p3
  · rw [List.pairwise_iff_getElem]
    intro i j hi hj hij
    have := hsd i j (by omega) hij (by simpa [p1] using hj)
    rw [lt_cf_not] at this
    simp only [Array.length_toList] at hi hj
    simpa [hi, hj] using this

theorem sort_none (p : Option Addr) (cap : Nat) (fv : Value) (w : World) : Calls Try.prog 35 #[.slice p 0 cap, fv] w fun e w' => e = .returned (.tuple #[]) ∧ w' = w :=
  AnyF.slices_SortFunc_none Try.sortLr p cap fv w

end Go.Proofs.Ytibdkadojoeopaa
