/-
  The contracts of package cdt's Below (whatever the names) and First over the translation. No statement is proved here.
-/
import Derived.Test.YtjopmhidldemmaaCdtBel
namespace Go.Proofs.Ytjopmhidldemmaa
open Go.RowKit Go.Shelf

attribute [local go_sem] Oper.semAt_some

set_option maxRecDepth 100000 in
set_option maxHeartbeats 1000000 in
theorem bel_none (w : World) (t : Nat) (T : Tr) (h : IsT w t T) (a b : Rf) (ha : a.Ok) (hh : hasF T.F a = false) :
    Calls Try.prog 30 #[pv t, rfV a, rfV b] w fun e w' => e = .returned (.bool false) ∧ Fr none' w w' := by
  have f1 := (((Fr.refl none' w).alloc (.cells #[.int .i64 a.n, .int .i64 a.i] 33)).alloc (.cells #[.int .i64 b.n, .int .i64 b.i] 33)).alloc (.cells #[.bool false] 4)
  have h1 := h.keep0 f1
  have c1 := h1.c1
  have l0 : ∀ n, _ := fun n => (h1.keep0 (fr_drewN _ n)).map.look_none ha (mapF_none hh)
  clear h1
  go_enter Try.func30, Try.ntmps30
  go_wp2_with fail
  go_quiet (fail)
  go_wp2
  have hr := row_alloc1 (w.alloc (.cells #[.int .i64 a.n, .int .i64 a.i] 33)) (.cells #[.int .i64 b.n, .int .i64 b.i] 33) #[.bool false] 4
  rw [World.size_alloc] at hr
  have hc : _ = some (Value.bool false) := ((hr.keep (fr_drewN _ nq) (fun h => h)).setCell 0 (.bool false)).cell 0
  refine bodyPost_ret (v := .bool false) ?_ rfl ⟨rfl, (f1.trans (fr_drewN _ _)).setCell (p := ⟨w.heap.size + 1 + 1, 0, none⟩) (Or.inl (Nat.le_succ_of_le (Nat.le_succ _))) _⟩
  simp [results, Try.f30, go_sem, hc]

theorem bel_any (w : World) (t : Nat) (T : Tr) (h : IsT w t T) (a b : Rf) (ha : a.Ok) :
    Calls Try.prog 30 #[pv t, rfV a, rfV b] w fun e w' => e = .returned (.bool (belF a b T.F)) ∧ Fr none' w w' := by
  cases hh : hasF T.F a with
  | false =>
    have e : belF a b T.F = false := by unfold belF; rw [des_none hh]; simp
    rw [e]
    exact bel_none w t T h a b ha hh
  | true =>
    obtain ⟨A, x, C, hY, rfl, hA⟩ := place_of hh
    have e : belF x.e.a b T.F = decide (b ∈ nmP (runP x.e.d C)) := by unfold belF; rw [F_at hY, des_at hA, nm_run]
    rw [e]
    exact bel_in w t T h A C x hY hA ha b

def firF (a : Rf) (F : List En) : Rf × Bool := match desF a F with
  | [] => (rf0, false)
  | b :: _ => (b, true)

set_option maxRecDepth 100000 in
set_option maxHeartbeats 1000000 in
theorem fir_none (w : World) (t : Nat) (T : Tr) (h : IsT w t T) (a : Rf) (ha : a.Ok) (hh : hasF T.F a = false) :
    Calls Try.prog 34 #[pv t, rfV a] w fun e w' => e = .returned (.tuple #[rfV rf0, .bool false]) ∧ Fr none' w w' := by
  have f1 := (((Fr.refl none' w).alloc (.cells #[.int .i64 a.n, .int .i64 a.i] 33)).alloc (.cells #[.int .i64 0, .int .i64 0] 33)).alloc (.cells #[.bool false] 4)
  have h1 := h.keep0 f1
  have c1 := h1.c1
  have l0 : ∀ n, _ := fun n => (h1.keep0 (fr_drewN _ n)).map.look_none ha (mapF_none hh)
  clear h1
  go_enter Try.func34, Try.ntmps34
  go_wp2_with fail
  go_quiet (fail)
  go_wp2
  have hr := row_alloc1 (w.alloc (.cells #[.int .i64 a.n, .int .i64 a.i] 33)) (.cells #[.int .i64 0, .int .i64 0] 33) #[.bool false] 4
  rw [World.size_alloc] at hr
  have hq := ((row_alloc1 w (.cells #[.int .i64 a.n, .int .i64 a.i] 33) #[.int .i64 0, .int .i64 0] 33).alloc (.cells #[.bool false] 4))
  have HR : Hid _ := ⟨hr.keep (fr_drewN _ nq) (fun h => h)⟩
  have HQ : Hid _ := ⟨hq.keep (fr_drewN _ nq) (fun h => h)⟩
  clear hr hq
  have ne : w.heap.size + 1 ≠ w.heap.size + 1 + 1 := by omega
  have hc := ((HR.out.setCell_other (p := ⟨w.heap.size + 1, 0, none⟩) ne (.int .i64 0)).setCell_other (p := ⟨w.heap.size + 1, 1, none⟩) ne (.int .i64 0)).setCell 0 (.bool false)
  have hd := ((HQ.out.setCell 0 (.int .i64 0)).setCell 1 (.int .i64 0)).setCell_other (p := ⟨w.heap.size + 1 + 1, 0, none⟩) ne.symm (.bool false)
  have hc0 : _ = some (Value.bool false) := hc.cell 0
  have hd0 : _ = some (Value.int .i64 0) := hd.cell 0
  have hd1 : _ = some (Value.int .i64 0) := hd.cell 1
  refine bodyPost_ret (v := .tuple #[.agg #[.int .i64 0, .int .i64 0], .bool false]) ?_ rfl ⟨rfl, (((f1.trans (fr_drewN _ _)).setCell (p := ⟨w.heap.size + 1, 0, none⟩) (Or.inl (Nat.le_succ _)) _).setCell (p := ⟨w.heap.size + 1, 1, none⟩) (Or.inl (Nat.le_succ _)) _).setCell (p := ⟨w.heap.size + 1 + 1, 0, none⟩) (Or.inl (Nat.le_succ_of_le (Nat.le_succ _))) _⟩
  simp [results, Try.f34, go_sem, hc0, hd0, hd1]

structure Fi (w : World) (x : Pl) (k : Nat) (W : World) : Prop where
  z : k = 0
  fr : Fr none' w W
  rn : Row W (w.heap.size + 1) #[.int .i64 0, .int .i64 0] 33
  rr : Row W (w.heap.size + 1 + 1) #[.bool false] 4
  bb : Row W (w.heap.size + 1 + 1 + 1) #[pv x.b] 45
structure Fx (w : World) (y : Rf) (k : Nat) (W : World) : Prop where
  z : 0 < k
  fr : Fr none' w W
  rn : Row W (w.heap.size + 1) #[.int .i64 y.n, .int .i64 y.i] 33
  rr : Row W (w.heap.size + 1 + 1) #[.bool true] 4
theorem fi_own {w : World} {x : Pl} {B : Nat} (hB : w.heap.size ≤ B) : OwnFrom B (Fi w x) := by
  intro k W W' row h hg hr
  have hr' : ∀ r, row = some r → ∃ o : Obj, W.heap[r]? = some o ∧ o.isCells = false := fun r e => (hr r e).2
  exact ⟨h.z, fr_grown h.fr hg hB (fun r e => (hr r e).1), row_grown h.rn hg hr', row_grown h.rr hg hr', row_grown h.bb hg hr'⟩
theorem fx_own {w : World} {y : Rf} {B : Nat} (hB : w.heap.size ≤ B) : OwnFrom B (Fx w y) := by
  intro k W W' row h hg hr
  have hr' : ∀ r, row = some r → ∃ o : Obj, W.heap[r]? = some o ∧ o.isCells = false := fun r e => (hr r e).2
  exact ⟨h.z, fr_grown h.fr hg hB (fun r e => (hr r e).1), row_grown h.rn hg hr', row_grown h.rr hg hr'⟩

set_option maxRecDepth 100000 in
set_option maxHeartbeats 2000000 in
theorem fir_in (w : World) (t : Nat) (T : Tr) (h : IsT w t T) (A C : List Pl) (x : Pl) (hY : T.Y = A ++ x :: C) (hA : hasF (A.map (·.e)) x.e.a = false) (ha : x.e.a.Ok) :
    Calls Try.prog 34 #[pv t, rfV x.e.a] w fun e w' => e = .returned (.tuple #[rfV (firF x.e.a T.F).1, .bool (firF x.e.a T.F).2]) ∧ Fr none' w w' := by
  have f1 := (((Fr.refl none' w).alloc (.cells #[.int .i64 x.e.a.n, .int .i64 x.e.a.i] 33)).alloc (.cells #[.int .i64 0, .int .i64 0] 33)).alloc (.cells #[.bool false] 4)
  have h1 := h.keep0 f1
  have c1 := h1.c1
  have l0 : ∀ n, _ := fun n => (h1.keep0 (fr_drewN _ n)).map.look_some ha (by rw [hY]; exact mapF_at hA)
  refine (callsIn_wide (n := 5)).1 ?_
  refine callsIn_of_wp_marks Try.func34 rfl trivial ?_ rfl
  simp only [Try.ntmps34, List.size_toArray, List.length_cons, List.length_nil, Nat.reduceAdd, Nat.reduceSub, Array.replicate_succ, Array.replicate_zero, List.push_toArray, List.append_toArray, List.nil_append, List.cons_append]
  gi_wp2_with fail
  gi_quiet (fail)
  gi_wp2_with fail
  refine ⟨trivial, (callsIn_wide.2 (below_any x.b _)).mono ?_⟩
  rintro e w1 ⟨rfl, rfl⟩
  gi_wp2_with fail
  clear l0 c1
  have hch := ch_tail h (X_of hY)
  have nd := nd_tail h (X_of hY)
  have i0 : Fi w x 0 (((((w.alloc (.cells #[.int .i64 x.e.a.n, .int .i64 x.e.a.i] 33)).alloc (.cells #[.int .i64 0, .int .i64 0] 33)).alloc (.cells #[.bool false] 4)).drewN nq).alloc (.cells #[pv x.b] 45)) := by
    refine ⟨rfl, (f1.trans (fr_drewN _ _)).alloc _, ?_, ?_, ?_⟩
    · exact ((row_alloc1 w _ _ _).alloc _).keep ((fr_drewN _ nq).alloc _) (fun h => h)
    · have hr := row_alloc1 (w.alloc (.cells #[.int .i64 x.e.a.n, .int .i64 x.e.a.i] 33)) (.cells #[.int .i64 0, .int .i64 0] 33) #[.bool false] 4
      rw [World.size_alloc] at hr
      exact hr.keep ((fr_drewN _ nq).alloc _) (fun h => h)
    · have hr := row_alloc ((((w.alloc (.cells #[.int .i64 x.e.a.n, .int .i64 x.e.a.i] 33)).alloc (.cells #[.int .i64 0, .int .i64 0] 33)).alloc (.cells #[.bool false] 4)).drewN nq) #[pv x.b] 45
      have e : ((((w.alloc (.cells #[.int .i64 x.e.a.n, .int .i64 x.e.a.i] 33)).alloc (.cells #[.int .i64 0, .int .i64 0] 33)).alloc (.cells #[.bool false] 4)).drewN nq).heap.size = w.heap.size + 1 + 1 + 1 := by
        show (((w.alloc (.cells #[.int .i64 x.e.a.n, .int .i64 x.e.a.i] 33)).alloc (.cells #[.int .i64 0, .int .i64 0] 33)).alloc (.cells #[.bool false] 4)).heap.size = _
        simp
      rw [e] at hr
      exact hr
  have hF : firF x.e.a T.F = match nmP (runP x.e.d C) with | [] => (rf0, false) | b :: _ => (b, true) := by
    unfold firF
    rw [F_at hY, des_at hA, ← nm_run]
  obtain ⟨y0, hy0⟩ : ∃ y : Rf, ∀ z Z, runP x.e.d C = z :: Z → y = z.e.a := by
    cases hr : runP x.e.d C with
    | nil => exact ⟨rf0, fun z Z e => by cases e⟩
    | cons z Z => exact ⟨z.e.a, fun z' Z' e => by cases e; rfl⟩
  refine range13 (m := (runP x.e.d C).length) (xs := fun k => #[pv (bAt C k)]) (by omega) rfl enters45 (below_seq _ _ x C nd) (fun _ => rfl) (Fi w x) (Fx w y0) (fi_own (by have := i0.fr.size; exact this)) (fx_own (by have := i0.fr.size; exact this))
    (fun k V hk => need_of (hch.keep hk.fr (fun _ _ h => h)) (hk.bb.cell 0) (by have := hk.z; omega)) i0
    (fun k => { tmps := #[pv t, rfV x.e.a, undef, .pointer (some ⟨w.heap.size, 0, none⟩), .pointer (some ⟨w.heap.size + 1, 0, none⟩), .pointer (some ⟨w.heap.size + 1 + 1, 0, none⟩), pv x.b, .bool true, pv (bAt C k), .tuple #[pv x.b, .bool true], pv t, .pointer (some ⟨t, 0, none⟩), .pointer (some ⟨t, 1, none⟩), .map (some T.m), .agg #[.int .i64 x.e.a.n, .int .i64 x.e.a.i], .tuple #[pv x.b, .bool true], pv x.b, .bool true, .bool true, .bool false, undef, pv x.b, .func (.func 39) #[] #[.pointer (some ⟨w.heap.size + 1 + 1 + 1, 0, none⟩)], pv (bAt C k), undef, undef, undef, undef, undef], defers := [] }) ?assign ?body ?done ?stop
  case assign =>
    intro l k W K hK
    gi_wp2
    exact hK
  case body =>
    intro l k W hI hk
    have hj : C[k]? = some (runP x.e.d C)[k] := by
      conv => lhs; rw [← runP_restP x.e.d C]
      rw [List.getElem?_append_left hk, List.getElem?_eq_getElem hk]
    obtain ⟨p', ry⟩ := (hch.keep hI.fr (fun _ _ h => h)).2.nth hj
    rw [bAt_eq hj]
    obtain ⟨y, hy⟩ : ∃ y, y = (runP x.e.d C)[k] := ⟨_, rfl⟩
    rw [← hy] at ry ⊢
    have hyy : y.e.a = y0 := by
      have hz := hI.z
      subst hz
      cases hr : runP x.e.d C with
      | nil => rw [hr] at hk; simp at hk
      | cons z Z =>
        rw [hy0 z Z hr, hy]
        simp [hr]
    clear hy hj hk hF
    obtain ⟨d0, d1, _, _, _⟩ := pl5 ry
    rw [hyy] at d0 d1
    have n0 := hI.rn.cell 0
    have n1 := hI.rn.cell 1
    have m0 := hI.rn.frozen 0
    have m1 := hI.rn.frozen 1
    have r0 := hI.rr.cell 0
    have z0 := hI.rr.frozen 0
    have ne : w.heap.size + 1 ≠ w.heap.size + 1 + 1 := by omega
    have HL : Hid (KeepsFrom (((((w.alloc (.cells #[.int .i64 x.e.a.n, .int .i64 x.e.a.i] 33)).alloc (.cells #[.int .i64 0, .int .i64 0] 33)).alloc (.cells #[.bool false] 4)).drewN nq).alloc (.cells #[pv x.b] 45)).heap.size W (((W.setCell ⟨w.heap.size + 1, 0, none⟩ (.int .i64 y0.n)).setCell ⟨w.heap.size + 1, 1, none⟩ (.int .i64 y0.i)).setCell ⟨w.heap.size + 1 + 1, 0, none⟩ (.bool true)) ∧ Fx w y0 (k + 1) (((W.setCell ⟨w.heap.size + 1, 0, none⟩ (.int .i64 y0.n)).setCell ⟨w.heap.size + 1, 1, none⟩ (.int .i64 y0.i)).setCell ⟨w.heap.size + 1 + 1, 0, none⟩ (.bool true))) := by
      refine ⟨(((KeepsOthers.setCell _ _ _).trans (KeepsOthers.setCell _ _ _)).trans (KeepsOthers.setCell _ _ _)).from _, by omega, ?_, ?_, ?_⟩
      · exact ((hI.fr.setCell (p := ⟨w.heap.size + 1, 0, none⟩) (Or.inl (Nat.le_succ _)) _).setCell (p := ⟨w.heap.size + 1, 1, none⟩) (Or.inl (Nat.le_succ _)) _).setCell (p := ⟨w.heap.size + 1 + 1, 0, none⟩) (Or.inl (Nat.le_succ_of_le (Nat.le_succ _))) _
      · exact ((hI.rn.setCell 0 (.int .i64 y0.n)).setCell 1 (.int .i64 y0.i)).setCell_other (p := ⟨w.heap.size + 1 + 1, 0, none⟩) ne.symm (.bool true)
      · exact ((hI.rr.setCell_other (p := ⟨w.heap.size + 1, 0, none⟩) ne (.int .i64 y0.n)).setCell_other (p := ⟨w.heap.size + 1, 1, none⟩) ne (.int .i64 y0.i)).setCell 0 (.bool true)
    clear ry hI hyy hy0
    gi_wp2
    exact HL.out
  case done =>
    intro D W hD hI hK
    have hnil : runP x.e.d C = [] := by have := hI.z; exact List.eq_nil_of_length_eq_zero this
    rw [hnil] at hF
    have n0 := hI.rn.cell 0
    have n1 := hI.rn.cell 1
    have m0 := hI.rn.frozen 0
    have m1 := hI.rn.frozen 1
    have r0 := hI.rr.cell 0
    have z0 := hI.rr.frozen 0
    have ne : w.heap.size + 1 ≠ w.heap.size + 1 + 1 := by omega
    have hK' := (((KeepsOthers.setCell W ⟨w.heap.size + 1, 0, none⟩ (.int .i64 0)).trans (KeepsOthers.setCell _ ⟨w.heap.size + 1, 1, none⟩ (.int .i64 0))).trans (KeepsOthers.setCell _ ⟨w.heap.size + 1 + 1, 0, none⟩ (.bool false))).same D _ hK rfl
    have fW := ((hI.fr.setCell (p := ⟨w.heap.size + 1, 0, none⟩) (Or.inl (Nat.le_succ _)) (.int .i64 0)).setCell (p := ⟨w.heap.size + 1, 1, none⟩) (Or.inl (Nat.le_succ _)) (.int .i64 0)).setCell (p := ⟨w.heap.size + 1 + 1, 0, none⟩) (Or.inl (Nat.le_succ_of_le (Nat.le_succ _))) (.bool false)
    have g1 := ((hI.rn.setCell 0 (.int .i64 0)).setCell 1 (.int .i64 0)).setCell_other (p := ⟨w.heap.size + 1 + 1, 0, none⟩) ne.symm (.bool false)
    have g2 := ((hI.rr.setCell_other (p := ⟨w.heap.size + 1, 0, none⟩) ne (.int .i64 0)).setCell_other (p := ⟨w.heap.size + 1, 1, none⟩) ne (.int .i64 0)).setCell 0 (.bool false)
    gi_wp2
    refine ⟨by simp, .inl ⟨_, _, rfl, run_takeDeferred hK', ?_⟩⟩
    have hr' : ∀ r, some D = some r → ∃ o : Obj, (((W.setCell ⟨w.heap.size + 1, 0, none⟩ (.int .i64 0)).setCell ⟨w.heap.size + 1, 1, none⟩ (.int .i64 0)).setCell ⟨w.heap.size + 1 + 1, 0, none⟩ (.bool false)).heap[r]? = some o ∧ o.isCells = false := fun r e => by cases e; exact ⟨_, hK', rfl⟩
    have hc0 : _ = some (Value.int .i64 0) := (row_grown g1 (grownBy_putObj' _ D (.deferred none)) hr').cell 0
    have hc1 : _ = some (Value.int .i64 0) := (row_grown g1 (grownBy_putObj' _ D (.deferred none)) hr').cell 1
    have hc2 : _ = some (Value.bool false) := (row_grown g2 (grownBy_putObj' _ D (.deferred none)) hr').cell 0
    refine ⟨.tuple #[.agg #[.int .i64 0, .int .i64 0], .bool false], ?_, by rw [hF]; rfl, fr_grown fW (grownBy_putObj' _ D (.deferred none)) (Nat.le_refl _) (fun r e => by cases e; exact Nat.le_trans i0.fr.size hD)⟩
    simp [results, Try.f34, go_sem, hc0, hc1, hc2]
  case stop =>
    intro D k W hD hkm hI hK
    have hF' : firF x.e.a T.F = (y0, true) := by
      cases hr : runP x.e.d C with
      | nil => rw [hr] at hkm; simp at hkm; have := hI.z; omega
      | cons z Z => rw [hF, hr, hy0 z Z hr]; rfl
    gi_wp2
    refine ⟨by simp, .inl ⟨_, _, rfl, run_takeDeferred hK, ?_⟩⟩
    have hr' : ∀ r, some D = some r → ∃ o : Obj, W.heap[r]? = some o ∧ o.isCells = false := fun r e => by cases e; exact ⟨_, hK, rfl⟩
    have hc0 : _ = some (Value.int .i64 y0.n) := (row_grown hI.rn (grownBy_putObj' _ D (.deferred none)) hr').cell 0
    have hc1 : _ = some (Value.int .i64 y0.i) := (row_grown hI.rn (grownBy_putObj' _ D (.deferred none)) hr').cell 1
    have hc2 : _ = some (Value.bool true) := (row_grown hI.rr (grownBy_putObj' _ D (.deferred none)) hr').cell 0
    refine ⟨.tuple #[.agg #[.int .i64 y0.n, .int .i64 y0.i], .bool true], ?_, by rw [hF'], fr_grown hI.fr (grownBy_putObj' _ D (.deferred none)) (Nat.le_refl _) (fun r e => by cases e; exact Nat.le_trans i0.fr.size hD)⟩
    simp [results, Try.f34, go_sem, hc0, hc1, hc2]

theorem first_any (w : World) (t : Nat) (T : Tr) (h : IsT w t T) (a : Rf) (ha : a.Ok) :
    Calls Try.prog 34 #[pv t, rfV a] w fun e w' => e = .returned (.tuple #[rfV (firF a T.F).1, .bool (firF a T.F).2]) ∧ Fr none' w w' := by
  cases hh : hasF T.F a with
  | false =>
    have e : firF a T.F = (rf0, false) := by unfold firF; rw [des_none hh]
    rw [e]
    exact fir_none w t T h a ha hh
  | true =>
    obtain ⟨A, x, C, hY, rfl, hA⟩ := place_of hh
    exact fir_in w t T h A C x hY hA ha

end Go.Proofs.Ytjopmhidldemmaa
