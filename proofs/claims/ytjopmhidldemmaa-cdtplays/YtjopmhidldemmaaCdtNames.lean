/-
  Contracts of package cdt's names, List and Descendants over the translation. No statement is proved here.
-/
import Derived.Test.YtjopmhidldemmaaCdtSeq
import Derived.Test.YtjopmhidldemmaaCdtKid
import Derived.Maps.AppendAt
namespace Go.Proofs.Ytjopmhidldemmaa
open Go.RowKit Go.Shelf

attribute [local go_sem] Oper.semAt_some

def nmP (X : List Pl) : List Rf := X.map (·.e.a)

theorem step_append13 {ops : Array Oper} {o : Oper} {a : Act} {w : World} {K : Act → World → Prop} {Q : Exit → Act → World → Prop} {E : Prop} {l n : Nat} (hgd : o.guard = none) (s x : Operand) (t : TypeId)
    (ho : o.op = .call { callee := .builtin .append, args := #[s, x], argTypes := #[t, t] }) (vs vx v' : Value) (w' : World) (hs : a.eval s = vs) (hx : a.eval x = vx)
    (hrun : (Builtin.append_ #[t, t] o.type #[vs, vx]).run Try.prog w = .ok v' w') (hK : K (a.put o.dst v') w') :
    if Region.wanted o (yielded ops a.tmps) = true then Oper.wpIn (Fence.wide.inRound l) n Try.prog o a w K Q else E := by
  have hw : Region.wanted o (yielded ops a.tmps) = true := by simp [Region.wanted, hgd]
  rw [if_pos hw]
  refine ⟨fun _ _ => trivial, ?_⟩
  show Oper.uponIn _ _ _ _ _ _ _ ((Oper.semAt (some l) a.eval o).run Try.prog w)
  rw [Oper.semAt_some l _ _ (fun c => by rw [ho]; simp)]
  simp [execOp, ho, resolve, invoke, builtin, hs, hx, hrun, Result.andThen]
  exact hK

theorem keeps_fr {S : Nat → Prop} {W W' : World} (f : Fr S W W') (hS : ∀ k, S k → ∀ o, W.heap[k]? = some o → o.isCells = true) (B : Nat) : KeepsFrom B W W' :=
  ⟨f.size, fun k o _ hk ho => (f.block k (Array.getElem?_eq_some_iff.1 hk).1 (fun s => by rw [hS k s o hk] at ho; cases ho)).trans hk⟩

theorem fr_high {w w1 w2 : World} {S : Nat → Prop} (f : Fr none' w w1) (g : Fr S w1 w2) (h : ∀ q, S q → w.heap.size ≤ q) : Fr none' w w2 :=
  ⟨g.os.trans f.os, g.tape.trans f.tape, g.output.trans f.output, Nat.le_trans f.size g.size, fun i hi hn => (g.block i (Nat.lt_of_lt_of_le hi f.size) (fun e => by have := h i e; omega)).trans (f.block i hi hn)⟩
theorem own_cells {w : World} {e : TypeId} {k B n : Nat} {v : Value} {L : List Value} (h : OwnK e k w B v n L) : ∀ q, some q = v.ownBlock → ∀ o, w.heap[q]? = some o → o.isCells = true := by
  intro q hq o ho
  by_cases hn : n = 0
  · rw [h.2 hn] at hq; simp [Value.ownBlock] at hq
  · obtain ⟨g, cap, cur, hv, _, hr, _⟩ := h.row hn
    rw [hv] at hq
    simp [Value.ownBlock] at hq
    subst hq
    rw [show w.heap[q]? = _ from hr] at ho
    cases ho
    rfl

/-- Behind k rounds: the slice in its box, the iterator's box, and all else as it was. -/
structure Nm (w : World) (x : Pl) (C : List Pl) (k : Nat) (W : World) : Prop where
  le : k ≤ (runP x.e.d C).length
  fr : Fr none' w W
  bb : Row W (w.heap.size + 1) #[pv x.b] 45
  own : ∃ v, Row W w.heap.size #[v] 36 ∧ OwnK 33 2 W (w.heap.size + 2) v (nmP ((runP x.e.d C).take k)).length (flatV (nmP ((runP x.e.d C).take k)))

theorem row_grown {W W' : World} {row : Option Nat} {b : Nat} {cs : Array Value} {t : TypeId} (h : Row W b cs t) (hg : W.grownBy W' row) (hr : ∀ r, row = some r → ∃ o : Obj, W.heap[r]? = some o ∧ o.isCells = false) : Row W' b cs t := by
  refine h.keep (fr_of_grown hg) (fun e => ?_)
  obtain ⟨o, ho, hc⟩ := hr b e.symm
  rw [show W.heap[b]? = _ from h] at ho
  cases ho
  cases hc
theorem ownk_grown {W W' : World} {row : Option Nat} {e : TypeId} {k B n : Nat} {v : Value} {L : List Value} (h : OwnK e k W B v n L) (hg : W.grownBy W' row) (hr : ∀ r, row = some r → ∃ o : Obj, W.heap[r]? = some o ∧ o.isCells = false) : OwnK e k W' B v n L := by
  by_cases hn : n = 0
  · obtain ⟨⟨hl, h1⟩, h2⟩ := h
    have hv := h2 hn
    subst hv hn
    refine ⟨⟨hl, Or.inl ⟨rfl, rfl⟩⟩, fun _ => rfl⟩
  · refine h.at fun q hq hl => hg.block q hl (fun e' => ?_)
    obtain ⟨g, cap, cur, hv, _, hr', _⟩ := h.row hn
    rw [hv] at hq
    simp [Value.ownBlock] at hq
    subst hq
    obtain ⟨o, ho, hc⟩ := hr q e'.symm
    rw [show W.heap[q]? = _ from hr'] at ho
    cases ho
    cases hc
theorem fr_grown {w W W' : World} {row : Option Nat} {B : Nat} (h : Fr none' w W) (hg : W.grownBy W' row) (hB : w.heap.size ≤ B) (hr : ∀ r, row = some r → B ≤ r) : Fr none' w W' :=
  ⟨hg.os.trans h.os, hg.tape.trans h.tape, hg.output.trans h.output, Nat.le_trans h.size hg.size, fun k hk hn => (hg.block k (Nat.lt_of_lt_of_le hk h.size) (fun e => by have := hr k e.symm; omega)).trans (h.block k hk hn)⟩

theorem nm_own {w : World} {x : Pl} {C : List Pl} {B : Nat} (hB : w.heap.size ≤ B) : OwnFrom B (Nm w x C) := by
  intro k W W' row h hg hr
  have hr' : ∀ r, row = some r → ∃ o : Obj, W.heap[r]? = some o ∧ o.isCells = false := fun r e => (hr r e).2
  obtain ⟨v, h1, h2⟩ := h.own
  exact ⟨h.le, fr_grown h.fr hg hB (fun r e => (hr r e).1), row_grown h.bb hg hr', v, row_grown h1 hg hr', ownk_grown h2 hg hr'⟩

set_option maxRecDepth 100000 in
set_option maxHeartbeats 2000000 in
theorem names_any (w : World) (p : Option Addr) (x : Pl) (C : List Pl) (h : Ch w p (x :: C) none) (nd : (C.map (·.b)).Nodup) (hlen : C.length ≤ 1000) :
    Calls Try.prog 22 #[pv x.b] w fun e w' => ∃ v, e = .returned v ∧ RfS w' w.heap.size v (nmP (runP x.e.d C)) ∧ Fr none' w w' := by
  refine (callsIn_wide (n := 5)).1 ?_
  refine callsIn_of_wp_marks Try.func22 rfl trivial ?_ rfl
  simp only [Try.ntmps22, List.size_toArray, List.length_cons, List.length_nil, Nat.reduceAdd, Nat.reduceSub, Array.replicate_succ, Array.replicate_zero, List.push_toArray, List.append_toArray, List.nil_append, List.cons_append]
  gi_wp2_with fail
  refine ⟨trivial, (callsIn_wide.2 (below_any x.b _)).mono ?_⟩
  rintro e w1 ⟨rfl, rfl⟩
  have i0 : Nm w x C 0 ((w.alloc (.cells #[.slice none 0 0] 36)).alloc (.cells #[pv x.b] 45)) := by
    refine ⟨by omega, ((Fr.refl none' w).alloc _).alloc _, row_alloc1 w _ _ _, .slice none 0 0, (row_alloc w _ _).alloc _, ?_⟩
    exact ownk_nil _ _ _ _
  gi_wp2_with fail
  refine range13 (m := (runP x.e.d C).length) (xs := fun k => #[pv (bAt C k)]) (by omega) rfl enters45 (below_seq _ _ x C nd) (fun _ => rfl) (Nm w x C) (fun _ _ => False) (nm_own (by simp; omega)) (fun _ _ _ _ hs _ _ => hs)
    (fun k V hk => need_of (h.keep hk.fr (fun _ _ h => h)) (hk.bb.cell 0) (Nat.le_trans hk.le (run_le _ _))) i0
    (fun k => { tmps := #[pv x.b, undef, .slice none 0 0, .pointer (some ⟨w.heap.size, 0, none⟩), pv (bAt C k), pv x.b, .func (.func 39) #[] #[.pointer (some ⟨w.heap.size + 1, 0, none⟩)], pv (bAt C k), undef, undef, undef, undef, undef, undef, undef, undef], defers := [] }) ?assign ?body ?done ?stop
  case assign =>
    intro l k W K hK
    gi_wp2
    exact hK
  case body =>
    intro l k W hI hk
    obtain ⟨v, r0, o0⟩ := hI.own
    have hj : C[k]? = some (runP x.e.d C)[k] := by
      conv => lhs; rw [← runP_restP x.e.d C]
      rw [List.getElem?_append_left hk, List.getElem?_eq_getElem hk]
    obtain ⟨p', ry⟩ := (h.keep hI.fr (fun _ _ h => h)).2.nth hj
    rw [bAt_eq hj]
    obtain ⟨y, hy⟩ : ∃ y, y = (runP x.e.d C)[k] := ⟨_, rfl⟩
    rw [← hy] at ry ⊢
    have HY : Hid ((runP x.e.d C).take (k + 1) = (runP x.e.d C).take k ++ [y]) := ⟨by rw [hy]; exact List.take_succ_eq_append_getElem hk⟩
    clear hy hj
    obtain ⟨d0, d1, _, _, _⟩ := pl5 ry
    have c0 : W.cell? ⟨w.heap.size, 0, none⟩ = some v := r0.cell 0
    obtain ⟨V, hV⟩ : ∃ V, V = (W.alloc (.cells #[.int .i64 y.e.a.n, .int .i64 y.e.a.i] 33)).drew := ⟨_, rfl⟩
    have f1 : Fr none' W V := by rw [hV]; exact ((Fr.refl none' W).alloc _).drew
    have rr : Row V W.heap.size #[.int .i64 y.e.a.n, .int .i64 y.e.a.i] 33 := by rw [hV]; exact row_alloc W _ _
    obtain ⟨v', w', hrun, f2, o2⟩ := append_ref V (w.heap.size + 2) W.heap.size v _ y.e.a (by have := hI.bb.lt; have := f1.size; omega) (o0.keep0 f1) (by have := run_le x.e.d C; simp [nmP]; omega) rr
    obtain ⟨g', cap', cur', rfl, hg', hr', _⟩ := o2.row (by simp)
    have r1 : Row w' w.heap.size #[v] 36 := (r0.keep f1 (fun h => h)).keep f2 (fun e => by have := o0.high _ e; omega)
    have b1 : Row w' (w.heap.size + 1) #[pv x.b] 45 := (hI.bb.keep f1 (fun h => h)).keep f2 (fun e => by have := o0.high _ e; omega)
    have c0' : w'.cell? ⟨w.heap.size, 0, none⟩ = some v := r1.cell 0
    have z0' := r1.frozen 0
    have f3 : Fr none' w w' := fr_high (hI.fr.trans f1) f2 (fun q hq => by have := o0.high q hq; omega)
    have HL : Hid (KeepsFrom ((w.alloc (.cells #[.slice none 0 0] 36)).alloc (.cells #[pv x.b] 45)).heap.size W (w'.setCell ⟨w.heap.size, 0, none⟩ (.slice (some ⟨g', 0, none⟩) (nmP ((runP x.e.d C).take k) ++ [y.e.a]).length cap')) ∧ Nm w x C (k + 1) (w'.setCell ⟨w.heap.size, 0, none⟩ (.slice (some ⟨g', 0, none⟩) (nmP ((runP x.e.d C).take k) ++ [y.e.a]).length cap'))) := by
      refine ⟨((keeps_fr f1 (fun _ h => h.elim) _).trans (keeps_fr f2 (fun q hq o ho => ?_) _)).trans ((KeepsOthers.setCell _ _ _).from _), ?_⟩
      · exact own_cells (o0.keep0 f1) q hq o ho
      · have e1 : nmP ((runP x.e.d C).take (k + 1)) = nmP ((runP x.e.d C).take k) ++ [y.e.a] := by rw [HY.out]; simp [nmP]
        have fs := fr_set w' w.heap.size 0 (.slice (some ⟨g', 0, none⟩) (nmP ((runP x.e.d C).take k) ++ [y.e.a]).length cap') (Fr.refl _ _)
        refine ⟨by omega, ?_, b1.keep fs (fun e => by have e' : w.heap.size + 1 = w.heap.size := e; omega), _, r1.setCell 0 _, ?_⟩
        · exact f3.setCell (p := ⟨w.heap.size, 0, none⟩) (Or.inl (Nat.le_refl _)) _
        · rw [e1]
          exact o2.at fun q hq hl => fs.block q hl (fun e => by have := o2.high q hq; have e' : q = w.heap.size := e; omega)
    clear o2 f2 f1 f3 r1 b1 hr' HY
    have cV : (W.alloc (.cells #[.int .i64 y.e.a.n, .int .i64 y.e.a.i] 33)).cell? ⟨w.heap.size, 0, none⟩ = some v := (r0.alloc _).cell 0
    rw [hV] at hrun
    clear hV
    generalize (nmP ((runP x.e.d C).take k) ++ [y.e.a]).length = N at hrun HL
    have hmx : Try.prog.follows .mixedOrders = true := by kernel_rfl
    have z0 := r0.frozen 0
    gi_wp2_with fail
    refine wpIn_region_any hmx ?_
    change wpAnyIn _ _ _ _ _ _ _ _ _ (World.drew _)
    refine wpAnyIn_ready (rs := [0, 1]) (by kernel_rfl) (by simp) ?_
    refine AllReadyIn.cons rfl (fun K hK => ?_) (AllReadyIn.cons rfl (fun K hK => ?_) AllReadyIn.nil)
    · go_simp
      refine hK _ _ ?_
      clear hK K
      refine wpAnyIn_ready (rs := [1]) (by kernel_rfl) (by simp) ?_
      refine AllReadyIn.cons rfl (fun K hK => ?_) AllReadyIn.nil
      · go_simp
        refine hK _ _ ?_
        clear hK K
        refine wpAnyIn_ready (rs := [2]) (by kernel_rfl) (by simp) ?_
        refine AllReadyIn.cons rfl (fun K hK => ?_) AllReadyIn.nil
        · go_simp
          refine hK _ _ ?_
          clear hK K
          refine wpAnyIn_ready (rs := [3]) (by kernel_rfl) (by simp) ?_
          refine AllReadyIn.cons rfl (fun K hK => ?_) AllReadyIn.nil
          · go_simp
            refine hK _ _ ?_
            clear hK K
            refine wpAnyIn_ready (rs := [4]) (by kernel_rfl) (by simp) ?_
            refine AllReadyIn.cons rfl (fun K hK => ?_) AllReadyIn.nil
            · go_simp
              refine hK _ _ ?_
              clear hK K
              refine wpAnyIn_ready (rs := [5]) (by kernel_rfl) (by simp) ?_
              refine AllReadyIn.cons rfl (fun K hK => ?_) AllReadyIn.nil
              · go_simp
                refine hK _ _ ?_
                clear hK K
                refine wpAnyIn_ready (rs := [6]) (by kernel_rfl) (by simp) ?_
                refine AllReadyIn.cons rfl (fun K hK => ?_) AllReadyIn.nil
                · refine step_append13 rfl (.tmp 8) (.tmp 13) 36 rfl _ _ _ w' rfl rfl hrun (hK _ _ ?_)
                  clear hK K
                  simp only [Act.put]
                  refine wpAnyIn_ready (rs := [7]) (by kernel_rfl) (by simp) ?_
                  refine AllReadyIn.cons rfl (fun K hK => ?_) AllReadyIn.nil
                  · go_simp
                    refine hK _ _ ?_
                    clear hK K
                    refine wpAnyIn_done (by kernel_rfl) ?_ _
                    exact HL.out
    · go_simp
      refine hK _ _ ?_
      clear hK K
      refine wpAnyIn_ready (rs := [0, 2]) (by kernel_rfl) (by simp) ?_
      refine AllReadyIn.cons rfl (fun K hK => ?_) (AllReadyIn.cons rfl (fun K hK => ?_) AllReadyIn.nil)
      · go_simp
        refine hK _ _ ?_
        clear hK K
        refine wpAnyIn_ready (rs := [2]) (by kernel_rfl) (by simp) ?_
        refine AllReadyIn.cons rfl (fun K hK => ?_) AllReadyIn.nil
        · go_simp
          refine hK _ _ ?_
          clear hK K
          refine wpAnyIn_ready (rs := [3]) (by kernel_rfl) (by simp) ?_
          refine AllReadyIn.cons rfl (fun K hK => ?_) AllReadyIn.nil
          · go_simp
            refine hK _ _ ?_
            clear hK K
            refine wpAnyIn_ready (rs := [4]) (by kernel_rfl) (by simp) ?_
            refine AllReadyIn.cons rfl (fun K hK => ?_) AllReadyIn.nil
            · go_simp
              refine hK _ _ ?_
              clear hK K
              refine wpAnyIn_ready (rs := [5]) (by kernel_rfl) (by simp) ?_
              refine AllReadyIn.cons rfl (fun K hK => ?_) AllReadyIn.nil
              · go_simp
                refine hK _ _ ?_
                clear hK K
                refine wpAnyIn_ready (rs := [6]) (by kernel_rfl) (by simp) ?_
                refine AllReadyIn.cons rfl (fun K hK => ?_) AllReadyIn.nil
                · refine step_append13 rfl (.tmp 8) (.tmp 13) 36 rfl _ _ _ w' rfl rfl hrun (hK _ _ ?_)
                  clear hK K
                  simp only [Act.put]
                  refine wpAnyIn_ready (rs := [7]) (by kernel_rfl) (by simp) ?_
                  refine AllReadyIn.cons rfl (fun K hK => ?_) AllReadyIn.nil
                  · go_simp
                    refine hK _ _ ?_
                    clear hK K
                    refine wpAnyIn_done (by kernel_rfl) ?_ _
                    exact HL.out
      · go_simp
        refine hK _ _ ?_
        clear hK K
        refine wpAnyIn_ready (rs := [0, 3]) (by kernel_rfl) (by simp) ?_
        refine AllReadyIn.cons rfl (fun K hK => ?_) (AllReadyIn.cons rfl (fun K hK => ?_) AllReadyIn.nil)
        · go_simp
          refine hK _ _ ?_
          clear hK K
          refine wpAnyIn_ready (rs := [3]) (by kernel_rfl) (by simp) ?_
          refine AllReadyIn.cons rfl (fun K hK => ?_) AllReadyIn.nil
          · go_simp
            refine hK _ _ ?_
            clear hK K
            refine wpAnyIn_ready (rs := [4]) (by kernel_rfl) (by simp) ?_
            refine AllReadyIn.cons rfl (fun K hK => ?_) AllReadyIn.nil
            · go_simp
              refine hK _ _ ?_
              clear hK K
              refine wpAnyIn_ready (rs := [5]) (by kernel_rfl) (by simp) ?_
              refine AllReadyIn.cons rfl (fun K hK => ?_) AllReadyIn.nil
              · go_simp
                refine hK _ _ ?_
                clear hK K
                refine wpAnyIn_ready (rs := [6]) (by kernel_rfl) (by simp) ?_
                refine AllReadyIn.cons rfl (fun K hK => ?_) AllReadyIn.nil
                · refine step_append13 rfl (.tmp 8) (.tmp 13) 36 rfl _ _ _ w' rfl rfl hrun (hK _ _ ?_)
                  clear hK K
                  simp only [Act.put]
                  refine wpAnyIn_ready (rs := [7]) (by kernel_rfl) (by simp) ?_
                  refine AllReadyIn.cons rfl (fun K hK => ?_) AllReadyIn.nil
                  · go_simp
                    refine hK _ _ ?_
                    clear hK K
                    refine wpAnyIn_done (by kernel_rfl) ?_ _
                    exact HL.out
        · go_simp
          refine hK _ _ ?_
          clear hK K
          refine wpAnyIn_ready (rs := [0, 4]) (by kernel_rfl) (by simp) ?_
          refine AllReadyIn.cons rfl (fun K hK => ?_) (AllReadyIn.cons rfl (fun K hK => ?_) AllReadyIn.nil)
          · go_simp
            refine hK _ _ ?_
            clear hK K
            refine wpAnyIn_ready (rs := [4]) (by kernel_rfl) (by simp) ?_
            refine AllReadyIn.cons rfl (fun K hK => ?_) AllReadyIn.nil
            · go_simp
              refine hK _ _ ?_
              clear hK K
              refine wpAnyIn_ready (rs := [5]) (by kernel_rfl) (by simp) ?_
              refine AllReadyIn.cons rfl (fun K hK => ?_) AllReadyIn.nil
              · go_simp
                refine hK _ _ ?_
                clear hK K
                refine wpAnyIn_ready (rs := [6]) (by kernel_rfl) (by simp) ?_
                refine AllReadyIn.cons rfl (fun K hK => ?_) AllReadyIn.nil
                · refine step_append13 rfl (.tmp 8) (.tmp 13) 36 rfl _ _ _ w' rfl rfl hrun (hK _ _ ?_)
                  clear hK K
                  simp only [Act.put]
                  refine wpAnyIn_ready (rs := [7]) (by kernel_rfl) (by simp) ?_
                  refine AllReadyIn.cons rfl (fun K hK => ?_) AllReadyIn.nil
                  · go_simp
                    refine hK _ _ ?_
                    clear hK K
                    refine wpAnyIn_done (by kernel_rfl) ?_ _
                    exact HL.out
          · go_simp
            refine hK _ _ ?_
            clear hK K
            refine wpAnyIn_ready (rs := [0, 5]) (by kernel_rfl) (by simp) ?_
            refine AllReadyIn.cons rfl (fun K hK => ?_) (AllReadyIn.cons rfl (fun K hK => ?_) AllReadyIn.nil)
            · go_simp
              refine hK _ _ ?_
              clear hK K
              refine wpAnyIn_ready (rs := [5]) (by kernel_rfl) (by simp) ?_
              refine AllReadyIn.cons rfl (fun K hK => ?_) AllReadyIn.nil
              · go_simp
                refine hK _ _ ?_
                clear hK K
                refine wpAnyIn_ready (rs := [6]) (by kernel_rfl) (by simp) ?_
                refine AllReadyIn.cons rfl (fun K hK => ?_) AllReadyIn.nil
                · refine step_append13 rfl (.tmp 8) (.tmp 13) 36 rfl _ _ _ w' rfl rfl hrun (hK _ _ ?_)
                  clear hK K
                  simp only [Act.put]
                  refine wpAnyIn_ready (rs := [7]) (by kernel_rfl) (by simp) ?_
                  refine AllReadyIn.cons rfl (fun K hK => ?_) AllReadyIn.nil
                  · go_simp
                    refine hK _ _ ?_
                    clear hK K
                    refine wpAnyIn_done (by kernel_rfl) ?_ _
                    exact HL.out
            · go_simp
              refine hK _ _ ?_
              clear hK K
              refine wpAnyIn_ready (rs := [0]) (by kernel_rfl) (by simp) ?_
              refine AllReadyIn.cons rfl (fun K hK => ?_) AllReadyIn.nil
              · go_simp
                refine hK _ _ ?_
                clear hK K
                refine wpAnyIn_ready (rs := [6]) (by kernel_rfl) (by simp) ?_
                refine AllReadyIn.cons rfl (fun K hK => ?_) AllReadyIn.nil
                · refine step_append13 rfl (.tmp 8) (.tmp 13) 36 rfl _ _ _ w' rfl rfl hrun (hK _ _ ?_)
                  clear hK K
                  simp only [Act.put]
                  refine wpAnyIn_ready (rs := [7]) (by kernel_rfl) (by simp) ?_
                  refine AllReadyIn.cons rfl (fun K hK => ?_) AllReadyIn.nil
                  · go_simp
                    refine hK _ _ ?_
                    clear hK K
                    refine wpAnyIn_done (by kernel_rfl) ?_ _
                    exact HL.out
  case done =>
    intro D W hD hI hK
    obtain ⟨v, r0, o0⟩ := hI.own
    have c0 : W.cell? ⟨w.heap.size, 0, none⟩ = some v := r0.cell 0
    have hl : (runP x.e.d C).take (runP x.e.d C).length = runP x.e.d C := List.take_length
    rw [hl] at o0
    gi_wp2
    refine ⟨by simp, .inl ⟨_, _, rfl, run_takeDeferred hK, ?_⟩⟩
    have hr' : ∀ r, some D = some r → ∃ o : Obj, W.heap[r]? = some o ∧ o.isCells = false := fun r e => by cases e; exact ⟨_, hK, rfl⟩
    exact ⟨_, results_tmp rfl _ _ _, v, rfl, (ownk_grown o0 (grownBy_putObj' W D (.deferred none)) hr').rfs.mono (by omega), fr_grown hI.fr (grownBy_putObj' W D (.deferred none)) (Nat.le_refl _) (fun r e => by cases e; simp at hD; omega)⟩
  case stop =>
    intro D k W _ _ hf _
    exact hf.elim

end Go.Proofs.Ytjopmhidldemmaa
