/-
  The contract of package cdt's Below over the translation. No statement is proved here.
-/
import Derived.Test.YtjopmhidldemmaaCdtList
namespace Go.Proofs.Ytjopmhidldemmaa
open Go.RowKit Go.Shelf

attribute [local go_sem] Oper.semAt_some

structure Be (w : World) (x : Pl) (C : List Pl) (b : Rf) (k : Nat) (W : World) : Prop where
  le : k ≤ (runP x.e.d C).length
  fr : Fr none' w W
  rb : Row W (w.heap.size + 1) #[.int .i64 b.n, .int .i64 b.i] 33
  rr : Row W (w.heap.size + 1 + 1) #[.bool false] 4
  bb : Row W (w.heap.size + 1 + 1 + 1) #[pv x.b] 45
  no : ∀ y ∈ (runP x.e.d C).take k, y.e.a ≠ b
structure Bx (w : World) (x : Pl) (C : List Pl) (b : Rf) (k : Nat) (W : World) : Prop where
  fr : Fr none' w W
  rr : Row W (w.heap.size + 1 + 1) #[.bool true] 4
  yes : b ∈ nmP (runP x.e.d C)
theorem be_own {w : World} {x : Pl} {C : List Pl} {b : Rf} {B : Nat} (hB : w.heap.size ≤ B) : OwnFrom B (Be w x C b) := by
  intro k W W' row h hg hr
  have hr' : ∀ r, row = some r → ∃ o : Obj, W.heap[r]? = some o ∧ o.isCells = false := fun r e => (hr r e).2
  exact ⟨h.le, fr_grown h.fr hg hB (fun r e => (hr r e).1), row_grown h.rb hg hr', row_grown h.rr hg hr', row_grown h.bb hg hr', h.no⟩
theorem bx_own {w : World} {x : Pl} {C : List Pl} {b : Rf} {B : Nat} (hB : w.heap.size ≤ B) : OwnFrom B (Bx w x C b) := by
  intro k W W' row h hg hr
  have hr' : ∀ r, row = some r → ∃ o : Obj, W.heap[r]? = some o ∧ o.isCells = false := fun r e => (hr r e).2
  exact ⟨fr_grown h.fr hg hB (fun r e => (hr r e).1), row_grown h.rr hg hr', h.yes⟩

set_option maxRecDepth 100000 in
set_option maxHeartbeats 2000000 in
theorem bel_in (w : World) (t : Nat) (T : Tr) (h : IsT w t T) (A C : List Pl) (x : Pl) (hY : T.Y = A ++ x :: C) (hA : hasF (A.map (·.e)) x.e.a = false) (ha : x.e.a.Ok) (b : Rf) :
    Calls Try.prog 30 #[pv t, rfV x.e.a, rfV b] w fun e w' => e = .returned (.bool (decide (b ∈ nmP (runP x.e.d C)))) ∧ Fr none' w w' := by
  have f1 := (((Fr.refl none' w).alloc (.cells #[.int .i64 x.e.a.n, .int .i64 x.e.a.i] 33)).alloc (.cells #[.int .i64 b.n, .int .i64 b.i] 33)).alloc (.cells #[.bool false] 4)
  have h1 := h.keep0 f1
  have c1 := h1.c1
  have l0 : ∀ n, _ := fun n => (h1.keep0 (fr_drewN _ n)).map.look_some ha (by rw [hY]; exact mapF_at hA)
  refine (callsIn_wide (n := 5)).1 ?_
  refine callsIn_of_wp_marks Try.func30 rfl trivial ?_ rfl
  simp only [Try.ntmps30, List.size_toArray, List.length_cons, List.length_nil, Nat.reduceAdd, Nat.reduceSub, Array.replicate_succ, Array.replicate_zero, List.push_toArray, List.append_toArray, List.nil_append, List.cons_append]
  gi_wp2_with fail
  gi_quiet (fail)
  gi_wp2_with fail
  refine ⟨trivial, (callsIn_wide.2 (below_any x.b _)).mono ?_⟩
  rintro e w1 ⟨rfl, rfl⟩
  gi_wp2_with fail
  clear l0 c1
  have hch := ch_tail h (X_of hY)
  have nd := nd_tail h (X_of hY)
  have i0 : Be w x C b 0 (((((w.alloc (.cells #[.int .i64 x.e.a.n, .int .i64 x.e.a.i] 33)).alloc (.cells #[.int .i64 b.n, .int .i64 b.i] 33)).alloc (.cells #[.bool false] 4)).drewN nq).alloc (.cells #[pv x.b] 45)) := by
    refine ⟨by omega, (f1.trans (fr_drewN _ _)).alloc _, ?_, ?_, ?_, by simp⟩
    · exact ((row_alloc1 w _ _ _).alloc _).keep ((fr_drewN _ nq).alloc _) (fun h => h)
    · have hr := row_alloc1 (w.alloc (.cells #[.int .i64 x.e.a.n, .int .i64 x.e.a.i] 33)) (.cells #[.int .i64 b.n, .int .i64 b.i] 33) #[.bool false] 4
      rw [World.size_alloc] at hr
      exact hr.keep ((fr_drewN _ nq).alloc _) (fun h => h)
    · have hr := row_alloc ((((w.alloc (.cells #[.int .i64 x.e.a.n, .int .i64 x.e.a.i] 33)).alloc (.cells #[.int .i64 b.n, .int .i64 b.i] 33)).alloc (.cells #[.bool false] 4)).drewN nq) #[pv x.b] 45
      have e : ((((w.alloc (.cells #[.int .i64 x.e.a.n, .int .i64 x.e.a.i] 33)).alloc (.cells #[.int .i64 b.n, .int .i64 b.i] 33)).alloc (.cells #[.bool false] 4)).drewN nq).heap.size = w.heap.size + 1 + 1 + 1 := by
        show (((w.alloc (.cells #[.int .i64 x.e.a.n, .int .i64 x.e.a.i] 33)).alloc (.cells #[.int .i64 b.n, .int .i64 b.i] 33)).alloc (.cells #[.bool false] 4)).heap.size = _
        simp
      rw [e] at hr
      exact hr
  refine range13 (m := (runP x.e.d C).length) (xs := fun k => #[pv (bAt C k)]) (by omega) rfl enters45 (below_seq _ _ x C nd) (fun _ => rfl) (Be w x C b) (Bx w x C b) (be_own (by have := i0.fr.size; exact this)) (bx_own (by have := i0.fr.size; exact this))
    (fun k V hk => need_of (hch.keep hk.fr (fun _ _ h => h)) (hk.bb.cell 0) (Nat.le_trans hk.le (run_le _ _))) i0
    (fun k => { tmps := #[pv t, rfV x.e.a, rfV b, undef, .pointer (some ⟨w.heap.size, 0, none⟩), .pointer (some ⟨w.heap.size + 1, 0, none⟩), .pointer (some ⟨w.heap.size + 1 + 1, 0, none⟩), pv x.b, .bool true, pv (bAt C k), .tuple #[pv x.b, .bool true], pv t, .pointer (some ⟨t, 0, none⟩), .pointer (some ⟨t, 1, none⟩), .map (some T.m), .agg #[.int .i64 x.e.a.n, .int .i64 x.e.a.i], .tuple #[pv x.b, .bool true], pv x.b, .bool true, .bool true, .bool false, pv x.b, .func (.func 39) #[] #[.pointer (some ⟨w.heap.size + 1 + 1 + 1, 0, none⟩)], pv (bAt C k), undef, undef, undef, undef, undef, undef], defers := [] }) ?assign ?body ?done ?stop
  case assign =>
    intro l k W K hK
    gi_wp2
    exact hK
  case body =>
    intro l k W hI hk
    have hj : C[k]? = some (runP x.e.d C)[k] := by
      conv => lhs; rw [← runP_restP x.e.d C]
      rw [List.getElem?_append_left hk, List.getElem?_eq_getElem hk]
    obtain ⟨p', ry⟩ := (hch.keep hI.fr (fun _ _ h => h)).2.nth hj
    rw [bAt_eq hj]
    obtain ⟨y, hy⟩ : ∃ y, y = (runP x.e.d C)[k] := ⟨_, rfl⟩
    rw [← hy] at ry ⊢
    have HY : Hid ((runP x.e.d C).take (k + 1) = (runP x.e.d C).take k ++ [y] ∧ y ∈ runP x.e.d C) := ⟨by rw [hy]; exact List.take_succ_eq_append_getElem hk, by rw [hy]; exact List.getElem_mem hk⟩
    have HK : Hid _ := ⟨hk⟩
    clear hy hj hk
    obtain ⟨d0, d1, _, _, _⟩ := pl5 ry
    have HI : Hid _ := ⟨hI⟩
    have b0 : W.cell? ⟨w.heap.size + 1, 0, none⟩ = some (.int .i64 b.n) := hI.rb.cell 0
    have b1 : W.cell? ⟨w.heap.size + 1, 1, none⟩ = some (.int .i64 b.i) := hI.rb.cell 1
    have r0 : W.cell? ⟨w.heap.size + 1 + 1, 0, none⟩ = some (.bool false) := hI.rr.cell 0
    have z0 := hI.rr.frozen 0
    have hmx : Try.prog.follows .mixedOrders = true := by kernel_rfl
    have hq := fun w => eq_ref y.e.a.n y.e.a.i b.n b.i w
    have HE : Hid ((⟨y.e.a.n, y.e.a.i⟩ : Rf) = y.e.a ∧ (⟨b.n, b.i⟩ : Rf) = b) := ⟨rfl, rfl⟩
    clear hI ry
    by_cases hyb : (⟨y.e.a.n, y.e.a.i⟩ : Rf) = ⟨b.n, b.i⟩
    · rw [decide_eq_true hyb] at hq
      have HB : Hid (y.e.a = b) := ⟨hyb⟩
      have HL : Hid (KeepsFrom (((((w.alloc (.cells #[.int .i64 x.e.a.n, .int .i64 x.e.a.i] 33)).alloc (.cells #[.int .i64 b.n, .int .i64 b.i] 33)).alloc (.cells #[.bool false] 4)).drewN nq).alloc (.cells #[pv x.b] 45)).heap.size W (W.drew.setCell ⟨w.heap.size + 1 + 1, 0, none⟩ (.bool true)) ∧ Bx w x C b (k + 1) (W.drew.setCell ⟨w.heap.size + 1 + 1, 0, none⟩ (.bool true))) := by
        refine ⟨((KeepsOthers.drew W).trans (KeepsOthers.setCell _ _ _)).from _, ?_⟩
        refine ⟨(HI.out.fr.drew).setCell (p := ⟨w.heap.size + 1 + 1, 0, none⟩) (Or.inl (Nat.le_succ_of_le (Nat.le_succ _))) _, HI.out.rr.drew.setCell 0 _, ?_⟩
        exact List.mem_map.2 ⟨y, HY.out.2, HB.out⟩
      clear hyb HY HI HB HK HE
      gi_wp2_with fail
      refine wpIn_region_any hmx ?_
      change wpAnyIn _ _ _ _ _ _ _ _ _ (World.drew _)
      refine wpAnyIn_ready (rs := [0, 4]) (by kernel_rfl) (by simp) ?_
      refine AllReadyIn.cons rfl (fun K hK => ?_) (AllReadyIn.cons rfl (fun K hK => ?_) AllReadyIn.nil)
      · go_simp
        refine hK _ _ ?_
        clear hK K
        refine wpAnyIn_ready (rs := [1, 4]) (by kernel_rfl) (by simp) ?_
        refine AllReadyIn.cons rfl (fun K hK => ?_) (AllReadyIn.cons rfl (fun K hK => ?_) AllReadyIn.nil)
        · go_simp
          refine hK _ _ ?_
          clear hK K
          refine wpAnyIn_ready (rs := [2, 4]) (by kernel_rfl) (by simp) ?_
          refine AllReadyIn.cons rfl (fun K hK => ?_) (AllReadyIn.cons rfl (fun K hK => ?_) AllReadyIn.nil)
          · go_simp
            refine hK _ _ ?_
            clear hK K
            refine wpAnyIn_ready (rs := [3, 4]) (by kernel_rfl) (by simp) ?_
            refine AllReadyIn.cons rfl (fun K hK => ?_) (AllReadyIn.cons rfl (fun K hK => ?_) AllReadyIn.nil)
            · go_simp
              refine hK _ _ ?_
              clear hK K
              refine wpAnyIn_ready (rs := [4]) (by kernel_rfl) (by simp) ?_
              refine AllReadyIn.cons rfl (fun K hK => ?_) AllReadyIn.nil
              · go_simp
                refine hK _ _ ?_
                clear hK K
                refine wpAnyIn_ready (rs := [5]) (by kernel_rfl) (by simp) ?_
                refine AllReadyIn.cons rfl (fun K hK => ?_) AllReadyIn.nil
                · go_simp
                  refine hK _ _ ?_
                  clear hK K
                  refine wpAnyIn_done (by kernel_rfl) ?_ _
                  gi_wp2
                  exact HL.out
            · go_simp
              refine hK _ _ ?_
              clear hK K
              refine wpAnyIn_ready (rs := [3]) (by kernel_rfl) (by simp) ?_
              refine AllReadyIn.cons rfl (fun K hK => ?_) AllReadyIn.nil
              · go_simp
                refine hK _ _ ?_
                clear hK K
                refine wpAnyIn_ready (rs := [5]) (by kernel_rfl) (by simp) ?_
                refine AllReadyIn.cons rfl (fun K hK => ?_) AllReadyIn.nil
                · go_simp
                  refine hK _ _ ?_
                  clear hK K
                  refine wpAnyIn_done (by kernel_rfl) ?_ _
                  gi_wp2
                  exact HL.out
          · go_simp
            refine hK _ _ ?_
            clear hK K
            refine wpAnyIn_ready (rs := [2]) (by kernel_rfl) (by simp) ?_
            refine AllReadyIn.cons rfl (fun K hK => ?_) AllReadyIn.nil
            · go_simp
              refine hK _ _ ?_
              clear hK K
              refine wpAnyIn_ready (rs := [3]) (by kernel_rfl) (by simp) ?_
              refine AllReadyIn.cons rfl (fun K hK => ?_) AllReadyIn.nil
              · go_simp
                refine hK _ _ ?_
                clear hK K
                refine wpAnyIn_ready (rs := [5]) (by kernel_rfl) (by simp) ?_
                refine AllReadyIn.cons rfl (fun K hK => ?_) AllReadyIn.nil
                · go_simp
                  refine hK _ _ ?_
                  clear hK K
                  refine wpAnyIn_done (by kernel_rfl) ?_ _
                  gi_wp2
                  exact HL.out
        · go_simp
          refine hK _ _ ?_
          clear hK K
          refine wpAnyIn_ready (rs := [1]) (by kernel_rfl) (by simp) ?_
          refine AllReadyIn.cons rfl (fun K hK => ?_) AllReadyIn.nil
          · go_simp
            refine hK _ _ ?_
            clear hK K
            refine wpAnyIn_ready (rs := [2]) (by kernel_rfl) (by simp) ?_
            refine AllReadyIn.cons rfl (fun K hK => ?_) AllReadyIn.nil
            · go_simp
              refine hK _ _ ?_
              clear hK K
              refine wpAnyIn_ready (rs := [3]) (by kernel_rfl) (by simp) ?_
              refine AllReadyIn.cons rfl (fun K hK => ?_) AllReadyIn.nil
              · go_simp
                refine hK _ _ ?_
                clear hK K
                refine wpAnyIn_ready (rs := [5]) (by kernel_rfl) (by simp) ?_
                refine AllReadyIn.cons rfl (fun K hK => ?_) AllReadyIn.nil
                · go_simp
                  refine hK _ _ ?_
                  clear hK K
                  refine wpAnyIn_done (by kernel_rfl) ?_ _
                  gi_wp2
                  exact HL.out
      · go_simp
        refine hK _ _ ?_
        clear hK K
        refine wpAnyIn_ready (rs := [0]) (by kernel_rfl) (by simp) ?_
        refine AllReadyIn.cons rfl (fun K hK => ?_) AllReadyIn.nil
        · go_simp
          refine hK _ _ ?_
          clear hK K
          refine wpAnyIn_ready (rs := [1]) (by kernel_rfl) (by simp) ?_
          refine AllReadyIn.cons rfl (fun K hK => ?_) AllReadyIn.nil
          · go_simp
            refine hK _ _ ?_
            clear hK K
            refine wpAnyIn_ready (rs := [2]) (by kernel_rfl) (by simp) ?_
            refine AllReadyIn.cons rfl (fun K hK => ?_) AllReadyIn.nil
            · go_simp
              refine hK _ _ ?_
              clear hK K
              refine wpAnyIn_ready (rs := [3]) (by kernel_rfl) (by simp) ?_
              refine AllReadyIn.cons rfl (fun K hK => ?_) AllReadyIn.nil
              · go_simp
                refine hK _ _ ?_
                clear hK K
                refine wpAnyIn_ready (rs := [5]) (by kernel_rfl) (by simp) ?_
                refine AllReadyIn.cons rfl (fun K hK => ?_) AllReadyIn.nil
                · go_simp
                  refine hK _ _ ?_
                  clear hK K
                  refine wpAnyIn_done (by kernel_rfl) ?_ _
                  gi_wp2
                  exact HL.out
    · rw [decide_eq_false hyb] at hq
      have HL : Hid (KeepsFrom (((((w.alloc (.cells #[.int .i64 x.e.a.n, .int .i64 x.e.a.i] 33)).alloc (.cells #[.int .i64 b.n, .int .i64 b.i] 33)).alloc (.cells #[.bool false] 4)).drewN nq).alloc (.cells #[pv x.b] 45)).heap.size W W.drew ∧ Be w x C b (k + 1) W.drew) := by
        refine ⟨(KeepsOthers.drew W).from _, ?_⟩
        have hI := HI.out
        refine ⟨HK.out, hI.fr.drew, hI.rb.drew, hI.rr.drew, hI.bb.drew, fun z hz => ?_⟩
        rw [HY.out.1] at hz
        rcases List.mem_append.1 hz with hz | hz
        · exact hI.no z hz
        · simp at hz
          subst hz
          exact hyb
      clear hyb HY HI HK HE
      gi_wp2_with fail
      refine wpIn_region_any hmx ?_
      change wpAnyIn _ _ _ _ _ _ _ _ _ (World.drew _)
      refine wpAnyIn_ready (rs := [0, 4]) (by kernel_rfl) (by simp) ?_
      refine AllReadyIn.cons rfl (fun K hK => ?_) (AllReadyIn.cons rfl (fun K hK => ?_) AllReadyIn.nil)
      · go_simp
        refine hK _ _ ?_
        clear hK K
        refine wpAnyIn_ready (rs := [1, 4]) (by kernel_rfl) (by simp) ?_
        refine AllReadyIn.cons rfl (fun K hK => ?_) (AllReadyIn.cons rfl (fun K hK => ?_) AllReadyIn.nil)
        · go_simp
          refine hK _ _ ?_
          clear hK K
          refine wpAnyIn_ready (rs := [2, 4]) (by kernel_rfl) (by simp) ?_
          refine AllReadyIn.cons rfl (fun K hK => ?_) (AllReadyIn.cons rfl (fun K hK => ?_) AllReadyIn.nil)
          · go_simp
            refine hK _ _ ?_
            clear hK K
            refine wpAnyIn_ready (rs := [3, 4]) (by kernel_rfl) (by simp) ?_
            refine AllReadyIn.cons rfl (fun K hK => ?_) (AllReadyIn.cons rfl (fun K hK => ?_) AllReadyIn.nil)
            · go_simp
              refine hK _ _ ?_
              clear hK K
              refine wpAnyIn_ready (rs := [4]) (by kernel_rfl) (by simp) ?_
              refine AllReadyIn.cons rfl (fun K hK => ?_) AllReadyIn.nil
              · go_simp
                refine hK _ _ ?_
                clear hK K
                refine wpAnyIn_ready (rs := [5]) (by kernel_rfl) (by simp) ?_
                refine AllReadyIn.cons rfl (fun K hK => ?_) AllReadyIn.nil
                · go_simp
                  refine hK _ _ ?_
                  clear hK K
                  refine wpAnyIn_done (by kernel_rfl) ?_ _
                  gi_wp2
                  exact HL.out
            · go_simp
              refine hK _ _ ?_
              clear hK K
              refine wpAnyIn_ready (rs := [3]) (by kernel_rfl) (by simp) ?_
              refine AllReadyIn.cons rfl (fun K hK => ?_) AllReadyIn.nil
              · go_simp
                refine hK _ _ ?_
                clear hK K
                refine wpAnyIn_ready (rs := [5]) (by kernel_rfl) (by simp) ?_
                refine AllReadyIn.cons rfl (fun K hK => ?_) AllReadyIn.nil
                · go_simp
                  refine hK _ _ ?_
                  clear hK K
                  refine wpAnyIn_done (by kernel_rfl) ?_ _
                  gi_wp2
                  exact HL.out
          · go_simp
            refine hK _ _ ?_
            clear hK K
            refine wpAnyIn_ready (rs := [2]) (by kernel_rfl) (by simp) ?_
            refine AllReadyIn.cons rfl (fun K hK => ?_) AllReadyIn.nil
            · go_simp
              refine hK _ _ ?_
              clear hK K
              refine wpAnyIn_ready (rs := [3]) (by kernel_rfl) (by simp) ?_
              refine AllReadyIn.cons rfl (fun K hK => ?_) AllReadyIn.nil
              · go_simp
                refine hK _ _ ?_
                clear hK K
                refine wpAnyIn_ready (rs := [5]) (by kernel_rfl) (by simp) ?_
                refine AllReadyIn.cons rfl (fun K hK => ?_) AllReadyIn.nil
                · go_simp
                  refine hK _ _ ?_
                  clear hK K
                  refine wpAnyIn_done (by kernel_rfl) ?_ _
                  gi_wp2
                  exact HL.out
        · go_simp
          refine hK _ _ ?_
          clear hK K
          refine wpAnyIn_ready (rs := [1]) (by kernel_rfl) (by simp) ?_
          refine AllReadyIn.cons rfl (fun K hK => ?_) AllReadyIn.nil
          · go_simp
            refine hK _ _ ?_
            clear hK K
            refine wpAnyIn_ready (rs := [2]) (by kernel_rfl) (by simp) ?_
            refine AllReadyIn.cons rfl (fun K hK => ?_) AllReadyIn.nil
            · go_simp
              refine hK _ _ ?_
              clear hK K
              refine wpAnyIn_ready (rs := [3]) (by kernel_rfl) (by simp) ?_
              refine AllReadyIn.cons rfl (fun K hK => ?_) AllReadyIn.nil
              · go_simp
                refine hK _ _ ?_
                clear hK K
                refine wpAnyIn_ready (rs := [5]) (by kernel_rfl) (by simp) ?_
                refine AllReadyIn.cons rfl (fun K hK => ?_) AllReadyIn.nil
                · go_simp
                  refine hK _ _ ?_
                  clear hK K
                  refine wpAnyIn_done (by kernel_rfl) ?_ _
                  gi_wp2
                  exact HL.out
      · go_simp
        refine hK _ _ ?_
        clear hK K
        refine wpAnyIn_ready (rs := [0]) (by kernel_rfl) (by simp) ?_
        refine AllReadyIn.cons rfl (fun K hK => ?_) AllReadyIn.nil
        · go_simp
          refine hK _ _ ?_
          clear hK K
          refine wpAnyIn_ready (rs := [1]) (by kernel_rfl) (by simp) ?_
          refine AllReadyIn.cons rfl (fun K hK => ?_) AllReadyIn.nil
          · go_simp
            refine hK _ _ ?_
            clear hK K
            refine wpAnyIn_ready (rs := [2]) (by kernel_rfl) (by simp) ?_
            refine AllReadyIn.cons rfl (fun K hK => ?_) AllReadyIn.nil
            · go_simp
              refine hK _ _ ?_
              clear hK K
              refine wpAnyIn_ready (rs := [3]) (by kernel_rfl) (by simp) ?_
              refine AllReadyIn.cons rfl (fun K hK => ?_) AllReadyIn.nil
              · go_simp
                refine hK _ _ ?_
                clear hK K
                refine wpAnyIn_ready (rs := [5]) (by kernel_rfl) (by simp) ?_
                refine AllReadyIn.cons rfl (fun K hK => ?_) AllReadyIn.nil
                · go_simp
                  refine hK _ _ ?_
                  clear hK K
                  refine wpAnyIn_done (by kernel_rfl) ?_ _
                  gi_wp2
                  exact HL.out
  case done =>
    intro D W hD hI hK
    have r0 : W.cell? ⟨w.heap.size + 1 + 1, 0, none⟩ = some (.bool false) := hI.rr.cell 0
    have z0 := hI.rr.frozen 0
    have hn : decide (b ∈ nmP (runP x.e.d C)) = false := decide_eq_false (fun hm => by
      obtain ⟨y, hy, e⟩ := List.mem_map.1 hm
      exact hI.no y (by rw [List.take_length]; exact hy) e)
    have hK' := (KeepsOthers.setCell W ⟨w.heap.size + 1 + 1, 0, none⟩ (.bool false)).same D _ hK rfl
    have fW := hI.fr.setCell (p := ⟨w.heap.size + 1 + 1, 0, none⟩) (Or.inl (Nat.le_succ_of_le (Nat.le_succ _))) (.bool false)
    gi_wp2
    refine ⟨by simp, .inl ⟨_, _, rfl, run_takeDeferred hK', ?_⟩⟩
    have hr' : ∀ r, some D = some r → ∃ o : Obj, (W.setCell ⟨w.heap.size + 1 + 1, 0, none⟩ (.bool false)).heap[r]? = some o ∧ o.isCells = false := fun r e => by cases e; exact ⟨_, hK', rfl⟩
    have hc5 : _ = some (Value.bool false) := (row_grown (hI.rr.setCell 0 (.bool false)) (grownBy_putObj' _ D (.deferred none)) hr').cell 0
    refine ⟨.bool false, ?_, by rw [hn], fr_grown fW (grownBy_putObj' _ D (.deferred none)) (Nat.le_refl _) (fun r e => by cases e; exact Nat.le_trans i0.fr.size hD)⟩
    simp [results, Try.f30, go_sem, hc5]
  case stop =>
    intro D k W hD _ hI hK
    have r0 : W.cell? ⟨w.heap.size + 1 + 1, 0, none⟩ = some (.bool true) := hI.rr.cell 0
    gi_wp2
    refine ⟨by simp, .inl ⟨_, _, rfl, run_takeDeferred hK, ?_⟩⟩
    have hr' : ∀ r, some D = some r → ∃ o : Obj, W.heap[r]? = some o ∧ o.isCells = false := fun r e => by cases e; exact ⟨_, hK, rfl⟩
    have hc5 : _ = some (Value.bool true) := (row_grown hI.rr (grownBy_putObj' _ D (.deferred none)) hr').cell 0
    refine ⟨.bool true, ?_, by rw [decide_eq_true hI.yes], fr_grown hI.fr (grownBy_putObj' _ D (.deferred none)) (Nat.le_refl _) (fun r e => by cases e; exact Nat.le_trans i0.fr.size hD)⟩
    simp [results, Try.f30, go_sem, hc5]

end Go.Proofs.Ytjopmhidldemmaa
