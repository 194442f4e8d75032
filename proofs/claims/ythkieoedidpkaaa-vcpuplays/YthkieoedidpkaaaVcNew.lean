/-
  New, Add, Drop, Tick of package vcpu over the translation. No statement is proved here.
-/
import Derived.Test.YthkieoedidpkaaaVcOf
import Derived.Test.YthkieoedidpkaaaVgNew
namespace Go.Proofs.Ythkieoedidpkaaa
open Go.RowKit Go.Maps Go.WideMaps

def isP0 (w : World) : Pp := ⟨w.heap.size + 1, w.heap.size, fun _ => 0, fun _ => ⟨0, 0, 0⟩⟩
theorem new_isP (w : World) {n : Int} (hn : 1 ≤ n ∧ n ≤ 16) : IsP ((w.alloc (.map #[] 0)).alloc (.cells (stC n (-1) w.heap.size (fun _ => 0)) 51)) (isP0 w) ⟨[], -1, n⟩ := by
  have r := row_alloc (w.alloc (.map #[] 0)) (stC n (-1) w.heap.size (fun _ => 0)) 51
  rw [show (w.alloc (.map #[] 0)).heap.size = w.heap.size + 1 from Array.size_push ..] at r
  have m := (mp_made w).keep ((Fr.refl none' (w.alloc (.map #[] 0))).alloc (.cells (stC n (-1) w.heap.size (fun _ => 0)) 51)) (fun h => h)
  exact ⟨r, m, fun x hx => (by cases hx), fun x hx => (by cases hx), fun x hx => (by cases hx), fun x hx => (by cases hx), good_p0 hn⟩
set_option maxRecDepth 100000 in
theorem newV_bad (w : World) (n : Int) (hn : rgB n 1 16 = false) : Calls Try.prog 6 #[.int .i64 n] w fun e w' => e = .returned (.tuple #[.pointer none, .int .i64 1]) ∧ w' = w := by
  have X := within_v n 1 16 w
  rw [hn] at X
  go_enter Try.func6, Try.ntmps6
  go_wp2_with fail
  refine X.mono ?_
  rintro e w1 ⟨rfl, rfl⟩
  go_wp2_with fail
  go_ret2
  exact ⟨rfl, rfl⟩
set_option maxRecDepth 100000 in
theorem newV_ok (w : World) (n : Int) (hn : rgB n 1 16 = true) : Calls Try.prog 6 #[.int .i64 n] w fun e w' => ∃ p, e = .returned (.tuple #[pv p.b, .int .i64 0]) ∧ Fr none' w w' ∧ IsP w' p ⟨[], -1, n⟩ ∧ ∀ k, p.s ⟨[], -1, n⟩ k → w.heap.size ≤ k := by
  have X := within_v n 1 16 w
  rw [hn] at X
  have H : Hid (IsP ((w.alloc (.map #[] 0)).alloc (.cells (stC n (-1) w.heap.size (fun _ => 0)) 51)) (isP0 w) ⟨[], -1, n⟩) := new_isP w (rg_iff.1 hn)
  have HF : Hid (Fr none' w ((w.alloc (.map #[] 0)).alloc (.cells (stC n (-1) w.heap.size (fun _ => 0)) 51))) := ((Fr.refl none' w).alloc _).alloc _
  dsimp only [stC] at H HF
  clear hn
  have hmm := @run_makeMap Try.prog
  go_enter Try.func6, Try.ntmps6
  go_wp2_with fail
  refine X.mono ?_
  rintro e w1 ⟨rfl, rfl⟩
  go_wp2_with fail
  go_ret2
  refine ⟨isP0 w1, rfl, HF.out, H.out, fun k hk => ?_⟩
  rcases hk with rfl | rfl | ⟨x, hx, _⟩
  · show w1.heap.size ≤ w1.heap.size + 1
    omega
  · exact Nat.le_refl _
  · cases hx

/-! ### Add -/
def Pp.put (p : Pp) (id : Int) (g : Nat) (B : Bk) : Pp := ⟨p.b, p.m, fun j => if j = id then g else p.B j, fun j => if j = id then B else p.K j⟩
theorem IsP.added {w w1 w3 : World} {p : Pp} {S : Vp} (h : IsP w p S) {id : Int} (he : addE S id = 0) {B : Bk} (f1 : Fr none' w w1) (hB : IsVg w1 B (zeroV S.lrs)) (hBn : ∀ k, B.s k → w.heap.size ≤ k)
    (hm : MP w3 p.m (S.L.length + 1) (fun j => if id = j then some w1.heap.size else (fnd S.L j).map fun _ => p.B j)) (f3 : Fr (at' p.m) (w1.alloc (.cells (prC (zsy id) B.b (-1)) 72)) w3) : ChP w p S w3 (p.put id w1.heap.size B) (addS S id) := by
  have hS : addS S id = { S with L := S.L ++ [newVc id S.lrs] } := by unfold addS; rw [if_pos he]
  have hgood := good_add h.good id
  rw [hS] at hgood ⊢
  obtain ⟨hr, hn⟩ : rgB id 0 1023 = true ∧ fnd S.L id = none := by
    unfold addE at he
    split at he
    · rename_i h1
      split at he
      · cases he
      · rename_i h2
        exact ⟨h1, has_no (by simpa using h2)⟩
    · cases he
  have hid := rg_iff.1 hr
  have hne : ∀ x ∈ S.L, x.id ≠ id := fnd_none hn
  have f2 : Fr none' w (w1.alloc (.cells (prC (zsy id) B.b (-1)) 72)) := f1.alloc _
  have F : Fr (at' p.m) w w3 := (f2.mono (fun _ _ h => h.elim)).trans f3
  have rg := row_alloc w1 (prC (zsy id) B.b (-1)) 72
  have hml := h.mp.lt
  have hs1 := f1.size
  have hg : w1.heap.size ≠ p.m := by omega
  have hBm : ∀ k, B.s k → k ≠ p.m := fun k hk e => by have := hBn k hk; omega
  have hBlt : ∀ k, B.s k → k < w1.heap.size := fun k hk => hB.lt k hk
  have eB : ∀ x ∈ S.L, (p.put id w1.heap.size B).B x.id = p.B x.id ∧ (p.put id w1.heap.size B).K x.id = p.K x.id := fun x hx => ⟨if_neg (hne x hx), if_neg (hne x hx)⟩
  have eN : (p.put id w1.heap.size B).B id = w1.heap.size ∧ (p.put id w1.heap.size B).K id = B := ⟨if_pos rfl, if_pos rfl⟩
  have hold : ∀ x ∈ S.L, p.B x.id < w.heap.size ∧ ∀ k, (p.K x.id).s k → k < w.heap.size := fun x hx => ⟨h.lt _ (Or.inr (Or.inr ⟨x, hx, Or.inl rfl⟩)), fun k hk => h.lt _ (Or.inr (Or.inr ⟨x, hx, Or.inr hk⟩))⟩
  have hbk : bkF { S with L := S.L ++ [newVc id S.lrs] } = bkF S := by
    unfold bkF
    show (match fnd (S.L ++ [newVc id S.lrs]) S.ld with | some x => x.sy | none => fun _ => 0) = _
    rw [fnd_append]
    cases hf : fnd S.L S.ld with
    | some x => rfl
    | none =>
      have : S.ld ≠ id := fun e => by
        rcases h.good.ld with h1 | h1
        · omega
        · unfold hasB at h1
          rw [hf] at h1
          cases h1
      show (match fnd [newVc id S.lrs] S.ld with | some x => x.sy | none => fun _ => 0) = fun _ => 0
      unfold fnd
      rw [if_neg (fun e => this (by have e : id = S.ld := e; exact e.symm))]
      rfl
  have mem : ∀ {x}, x ∈ S.L ++ [newVc id S.lrs] → x ∈ S.L ∨ x = newVc id S.lrs := fun {x} hx => by
    rcases List.mem_append.1 hx with hx | hx
    · exact Or.inl hx
    · exact Or.inr (by simpa using hx)
  refine ⟨⟨?_, ?_, fun x hx => ?_, fun x hx y hy => ?_, fun x hx y hy => ?_, fun x hx => ?_, hgood⟩, F.mono fun j _ e => Or.inr (Or.inl e), fun j hj => ?_, rfl⟩
  · rw [hbk]
    exact h.row.keep F (fun e => h.mne.1 (by have e : p.b = p.m := e; exact e.symm))
  · show MP w3 p.m (S.L ++ [newVc id S.lrs]).length _
    rw [List.length_append]
    refine hm.congr fun j => ?_
    show _ = (fnd (S.L ++ [newVc id S.lrs]) j).map fun _ => (p.put id w1.heap.size B).B j
    rw [fnd_append]
    by_cases e : id = j
    · subst e
      rw [if_pos rfl, hn, eN.1]
      show _ = (fnd [newVc id S.lrs] id).map _
      unfold fnd
      rw [if_pos (show (newVc id S.lrs).id = id from rfl)]
      rfl
    · rw [if_neg e]
      cases hf : fnd S.L j with
      | some x =>
        show some (p.B j) = some ((p.put id w1.heap.size B).B j)
        have := eB x (fnd_mem hf).1
        rw [(fnd_mem hf).2] at this
        rw [this.1]
      | none =>
        show none = (fnd [newVc id S.lrs] j).map _
        unfold fnd
        rw [if_neg (show ¬ (newVc id S.lrs).id = j from e)]
        rfl
  · rcases mem hx with hx | rfl
    · obtain ⟨⟨a, r, ea⟩, v⟩ := h.ea x hx
      obtain ⟨e1, e2⟩ := eB x hx
      refine ⟨⟨a, ?_, ea⟩, ?_⟩
      · rw [e1, e2]
        exact r.keep F (fun e => (h.mne.2 x hx) (by have e : p.B x.id = p.m := e; exact e.symm))
      · rw [e2]
        exact v.keep F (fun j hj e => by have e : j = p.m := e; subst e; exact h.km x hx hj)
    · refine ⟨⟨zsy id, ?_, fun _ => rfl⟩, ?_⟩
      · show Row w3 ((p.put id w1.heap.size B).B id) (prC (zsy id) ((p.put id w1.heap.size B).K id).b (-1)) _
        rw [eN.1, eN.2]
        exact rg.keep f3 (fun e => hg e)
      · show IsVg w3 ((p.put id w1.heap.size B).K id) (zeroV S.lrs)
        rw [eN.2]
        exact (hB.alloc _).keep f3 (fun j hj e => hBm j hj e)
  · rcases mem hx with hx | rfl <;> rcases mem hy with hy | rfl
    · rw [(eB x hx).1, (eB y hy).1]; exact h.ij x hx y hy
    · intro e
      rw [(eB x hx).1] at e
      have e : p.B x.id = (p.put id w1.heap.size B).B id := e
      rw [eN.1] at e
      have := (hold x hx).1
      omega
    · intro e
      rw [(eB y hy).1] at e
      have e : (p.put id w1.heap.size B).B id = p.B y.id := e
      rw [eN.1] at e
      have := (hold y hy).1
      omega
    · intro _; rfl
  · rcases mem hx with hx | rfl <;> rcases mem hy with hy | rfl
    · rw [(eB x hx).2, (eB y hy).2]; exact h.kk x hx y hy
    · intro _ k hk
      rw [(eB x hx).2] at hk
      show ¬ ((p.put id w1.heap.size B).K id).s k
      rw [eN.2]
      intro hk2
      have := (hold x hx).2 k hk
      have := hBn k hk2
      omega
    · intro _ k hk hk2
      have hk : ((p.put id w1.heap.size B).K id).s k := hk
      rw [eN.2] at hk
      rw [(eB y hy).2] at hk2
      have := (hold y hy).2 k hk2
      have := hBn k hk
      omega
    · intro e; exact absurd rfl e
  · rcases mem hx with hx | rfl
    · rw [(eB x hx).2]; exact h.km x hx
    · show ¬ ((p.put id w1.heap.size B).K id).s p.m
      rw [eN.2]
      exact fun hk => hBm _ hk rfl
  · rcases hj with rfl | rfl | ⟨x, hx, hj⟩
    · exact Or.inl (Or.inl rfl)
    · exact Or.inl (Or.inr (Or.inl rfl))
    · rcases mem hx with hx | rfl
      · rw [(eB x hx).1, (eB x hx).2] at hj
        exact Or.inl (Or.inr (Or.inr ⟨x, hx, hj⟩))
      · right
        have hj : j = (p.put id w1.heap.size B).B id ∨ ((p.put id w1.heap.size B).K id).s j := hj
        rw [eN.1, eN.2] at hj
        rcases hj with rfl | hj
        · exact hs1
        · exact hBn j hj
theorem isR_of {n : Int} (h : 1 ≤ n ∧ n ≤ 16) : isR n = true := isR_iff.2 h
set_option maxRecDepth 100000 in
set_option maxHeartbeats 4000000 in
theorem add_any (w : World) (p : Pp) (S : Vp) (h : IsP w p S) (id : Int) : Calls Try.prog 10 #[pv p.b, .int .i64 id] w fun e w' => ∃ p', e = .returned (.int .i64 (addE S id)) ∧ ChP w p S w' p' (addS S id) := by
  have X := isnum_any id w
  have HC : Hid (ChP w p S w p S) := ChP.same h (Fr.refl _ _)
  cases hr : rgB id 0 1023 with
  | false =>
    have HE : Hid (addE S id = 1 ∧ addS S id = S) := by
      have h1 : addE S id = 1 := by unfold addE; rw [hr]; rfl
      exact ⟨h1, by unfold addS; rw [h1]; rfl⟩
    rw [hr] at X
    clear h hr
    go_enter Try.func10, Try.ntmps10
    go_wp2_with fail
    refine X.mono ?_
    rintro e w1 ⟨rfl, rfl⟩
    go_wp2_with fail
    go_ret
    rw [HE.out.1, HE.out.2]
    exact ⟨p, rfl, HC.out⟩
  | true =>
    have hid := rg_iff.1 hr
    have Y := has_any' w p S h id ⟨by omega, by omega⟩
    rw [hr] at X
    cases hh : hasB S id with
    | true =>
      have HE : Hid (addE S id = 130 ∧ addS S id = S) := by
        have h1 : addE S id = 130 := by unfold addE; rw [hr, hh]; rfl
        exact ⟨h1, by unfold addS; rw [h1]; rfl⟩
      rw [hh] at Y
      clear h hr hid hh
      go_enter Try.func10, Try.ntmps10
      go_wp2_with fail
      refine X.mono ?_
      rintro e w1 ⟨rfl, rfl⟩
      go_wp2_with fail
      refine Y.mono ?_
      rintro e w1 ⟨rfl, rfl⟩
      go_wp2_with fail
      go_ret
      rw [HE.out.1, HE.out.2]
      exact ⟨p, rfl, HC.out⟩
    | false =>
      have h1 : addE S id = 0 := by unfold addE; rw [hr, hh]; rfl
      obtain ⟨c0, _, _⟩ := h.st
      have Z := new_ok w S.lrs (isR_of h.good.lrs)
      rw [hh] at Y
      have HH : Hid (IsP w p S ∧ addE S id = 0 ∧ fnd S.L id = none ∧ I64 id) := ⟨h, h1, has_no hh, by omega, by omega⟩
      have hcv : IntKind.u32.wrap id = id := by
        simp only [IntKind.wrap, IntKind.bits, IntKind.signed]
        first | omega | (simp; omega)
      clear h hr hh h1 HC
      go_enter Try.func10, Try.ntmps10
      go_wp2_with fail
      refine X.mono ?_
      rintro e w1 ⟨rfl, rfl⟩
      clear X
      go_wp2_with fail
      refine Y.mono ?_
      rintro e w1 ⟨rfl, rfl⟩
      clear Y
      go_wp2_with fail
      refine Z.mono ?_
      clear Z
      rintro e w2 ⟨B, rfl, hBn, f1, hB⟩
      have k1 : (w2.alloc (.cells (prC (zsy id) B.b (-1)) 72)).cell? ⟨p.b, 1, none⟩ = some (.map (some p.m)) := ((HH.out.1.keep0 f1).keep0 ((Fr.refl none' w2).alloc _)).st.2.1
      have hm2 := ((HH.out.1.keep0 f1).keep0 ((Fr.refl none' w2).alloc (.cells (prC (zsy id) B.b (-1)) 72))).mp
      have hlen := HH.out.1.good.len
      obtain ⟨w3, hrun, hm3, f3⟩ := hm2.store hlen HH.out.2.2.2 (by show (fnd S.L id).map _ = none; rw [HH.out.2.2.1]; rfl) w2.heap.size (f' := fun j => if id = j then some w2.heap.size else (fnd S.L j).map fun _ => p.B j) (fun j => rfl)
      have HD : Hid (∃ p', ChP w1 p S w3 p' (addS S id)) := ⟨_, HH.out.1.added HH.out.2.1 f1 hB hBn hm3 f3⟩
      rw [show prC (zsy id) B.b (-1) = #[.int .u32 0, .int .u32 0, .int .u32 0, .int .u32 0, .int .u32 0, .int .u32 0, .int .u32 id, .int .u32 0, pv B.b, .int .i64 (-1)] from rfl] at hrun k1
      clear hm2 hm3 f3 f1 hB hBn hlen c0
      go_wp2_with fail
      go_ret
      rw [HH.out.2.1]
      obtain ⟨p', hp⟩ := HD.out
      exact ⟨p', rfl, hp⟩

end Go.Proofs.Ythkieoedidpkaaa
