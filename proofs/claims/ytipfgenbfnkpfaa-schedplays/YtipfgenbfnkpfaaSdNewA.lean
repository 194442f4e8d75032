/-
  The contract of package sched's New over the translation: the walk. No statement is proved here.
-/
import Derived.Test.YtipfgenbfnkpfaaSdNew
namespace Go.Proofs.Ytipfgenbfnkpfaa
open Go.RowKit Go.Maps Go.WideMaps

set_option maxRecDepth 100000 in
set_option maxHeartbeats 2000000 in
theorem new_any (w : World) (v : Value) (L : List Tn) (hv : TnI w v L) : Calls Try.prog 10 #[v] w (NewP w L) := by
  have hT := isturn_any
  have hmm := @run_makeMap Try.prog
  obtain ⟨Z, hz, hs, hq, hc, hn⟩ := zero_is
  have hlt : (Z.size < 261) = False := by simp [hs]
  have hlt0 : (Z = #[]) = False := eq_false (fun e => by rw [e] at hs; simp at hs)
  have hlt1 : (Z.size < 259) = False := by simp [hs]
  have HN : Hid (∀ (w1 : World) (v : Value) (n0 : Int), newB L = true → Fr none' w w1 → TnO w w1 v (newT L) → ((newT L)[0]?).map (·.n) = some n0 → NewP w L (.returned (.tuple #[.pointer (some ⟨w1.heap.size + 1, 0, none⟩), .int .i64 0])) ((w1.alloc (.map #[] 0)).alloc (.cells (((Z.setIfInBounds 0 (.map (some w1.heap.size))).setIfInBounds 258 v).setIfInBounds 260 (.int .i64 n0)) 57))) := fun w1 v n0 h f ho h0 => newP_ok h hs hq hc hn f ho h0
  have HB : Hid (∀ w1, newB L = false → Fr none' w w1 → NewP w L (.returned (.tuple #[.pointer none, .int .i64 1])) w1) := fun w1 h f => newP_bad h f
  clear hq hc hn hs
  by_cases hnil : L = []
  · subst hnil
    have hcl := fun w1 (f : Fr none' w w1) => tclone_any w1 v [] (hv.keep f) (by simp)
    obtain ⟨a0, cap, rfl⟩ : ∃ a0 cap, v = .slice a0 0 cap := by
      rcases hv with ⟨e, _⟩ | ⟨a, cap, e, _⟩
      · exact ⟨_, _, e⟩
      · exact ⟨_, _, e⟩
    have HC : Hid (∀ w1, Fr none' w w1 → Calls Try.prog 25 #[.slice a0 0 cap] w1 fun e w' => ∃ a cap', e = .returned (.slice a 0 cap') ∧ Fr none' w w') := fun w1 f => (hcl w1 f).mono (by
      rintro e w' ⟨a, cap', rfl, f2, _⟩
      exact ⟨a, cap', rfl, f.trans f2⟩)
    have HE : Hid (∀ w1, Fr none' w w1 → Fr none' w (w1.alloc (.cells #[.int .i64 0, .int .i64 1000] 33)) ∧ TnO w (w1.alloc (.cells #[.int .i64 0, .int .i64 1000] 33)) (.slice (some ⟨w1.heap.size, 0, none⟩) 1 1) (newT [])) := fun w1 f => ⟨f.alloc _, ⟨rfl, Or.inr ⟨w1.heap.size, 1, _, rfl, by omega, row_alloc _ _ _, by decide, by simp [maxLen], rfl, rfl⟩⟩, fun k hk => by have := own_is hk; have := f.size; omega⟩
    clear hv hcl
    go_enter Try.func10, Try.ntmps10
    go_wp2_with fail
    go_loopw [12] (fun i wr => i = .int .i64 0 ∧ Fr none' w wr) (fun i _ => 0)
    case atStart => exact ⟨rfl, Fr.refl _ _⟩
    case round =>
      obtain ⟨rfl, fk⟩ := hrel
      go_wp2_with (go_at_call 25; refine (HC.out _ fk).mono ?_; rintro e w1 ⟨a1, c1, rfl, f1⟩; have r1 := row_alloc w1 #[.int .i64 0, .int .i64 1000] 33; have k1 := r1.cell 1; dsimp at k1; clear r1)
      refine bodyPost_ret (results_tmp2 rfl _ _ _) rfl ?_
      have h1 := HE.out _ f1
      have h2 := HN.out _ _ 1000 rfl h1.1 h1.2 rfl
      simpa using h2
  · obtain ⟨a, cap, rfl, hx⟩ : ∃ (a : Addr) (cap : Nat), v = .slice (some a) L.length cap ∧ ∀ (k : Nat) (x : Tn), L[k]? = some x → ∃ b o, a = ⟨b, o, none⟩ ∧ w.cell? ⟨b, o + k * 2, none⟩ = some (.int .i64 x.d) ∧ w.cell? ⟨b, o + k * 2 + 1, none⟩ = some (.int .i64 x.n) := by
      rcases hv with ⟨_, e⟩ | e
      · exact absurd e hnil
      · exact e
    have hpos : 0 < L.length := List.length_pos_iff.2 hnil
    by_cases h8 : L.length ≤ 8
    · have HC : Hid (∀ w1, Fr none' w w1 → Calls Try.prog 25 #[.slice (some a) L.length cap] w1 fun e w2 => ∃ g cap', e = .returned (.slice (some ⟨g, 0, none⟩) L.length cap') ∧ Fr none' w w2 ∧ Hid (TnO w w2 (.slice (some ⟨g, 0, none⟩) L.length cap') (newT L)) ∧ ∃ n0, (w2.alloc (.map #[] 0)).cell? ⟨g, 1, none⟩ = some (.int .i64 n0) ∧ Hid (((newT L)[0]?).map (·.n) = some n0)) := fun w1 f => (tclone_any w1 _ L (hv.keep f) h8).mono (by
        rintro e w2 ⟨a', cap', rfl, f2, ho, hn⟩
        have f3 := f.trans f2
        have e1 : newT L = L := by unfold newT; rw [if_neg hnil]
        rw [e1]
        have hT : TnO w w2 (.slice a' L.length cap') L := ⟨ho, fun k hk => Nat.le_trans f.size (hn k hk)⟩
        obtain ⟨hl, h | ⟨g, cp, cur, hvv, hb, hg, hcc, hm, hss, ht⟩⟩ := ho
        · rw [h.2] at hpos; omega
        · simp only [Value.slice.injEq] at hvv
          obtain ⟨rfl, _, rfl⟩ := hvv
          have hx0 : L[0]? = some L[0] := List.getElem?_eq_getElem hpos
          refine ⟨g, cap', rfl, f3, hT, L[0].n, ?_, ?_⟩
          · have hg' := Row.keep (show Row w2 g cur _ from hg) ((Fr.refl none' w2).alloc (.map #[] 0)) (fun h => h)
            rw [hg'.cell, show (1 : Nat) = 0 * 2 + 1 from rfl]
            have := flatN_at L 0 L[0] hx0 1 (by omega)
            rw [← ht, List.getElem?_take, if_pos (by omega)] at this
            simpa [encN] using this
          · show (L[0]?).map (·.n) = _
            rw [hx0]; rfl)
      have HX : Hid (∀ (k : Nat) (x : Tn), L[k]? = some x → ∃ b o, a = ⟨b, o, none⟩ ∧ w.cell? ⟨b, o + k * 2, none⟩ = some (.int .i64 x.d) ∧ w.cell? ⟨b, o + k * 2 + 1, none⟩ = some (.int .i64 x.n)) := hx
      have HL : Hid (∀ (k : Nat) (x : Tn), L[k]? = some x → okNb x = false → newB L = false) := fun k x h hk => by
        unfold newB
        rw [Bool.and_eq_false_iff]
        refine Or.inr ?_
        rw [List.all_eq_false]
        exact ⟨x, List.mem_of_getElem? h, by rw [hk]; simp⟩
      have HG : Hid ((∀ (j : Nat) (x : Tn), j < L.length → L[j]? = some x → okNb x = true) → newB L = true) := fun h => by
        unfold newB
        rw [Bool.and_eq_true, List.all_eq_true]
        refine ⟨by simpa using h8, fun x hx => ?_⟩
        obtain ⟨j, hj, rfl⟩ := List.getElem_of_mem hx
        exact h j _ hj (List.getElem?_eq_getElem hj)
      have HE3 : Hid (∀ (k : Nat), k < L.length → ∃ x, L[k]? = some x) := fun k h => ⟨_, List.getElem?_eq_getElem h⟩
      clear hv hx hnil
      have t8 : decide (8 < L.length) = false := by simpa using h8
      obtain ⟨N, hN⟩ : ∃ N, N = L.length := ⟨_, rfl⟩
      rw [← hN] at HC HG HE3 hpos h8 t8 ⊢
      have i8 : (N : Int) ≤ 8 := by omega
      have z8 : ((N : Int) == 0) = false := by simp; omega
      clear hN
      go_enter Try.func10, Try.ntmps10
      go_wp2_with fail
      go_loopw [12] (fun i wr => ∃ k : Nat, k ≤ N ∧ i = .int .i64 (k : Int) ∧ Fr none' w wr ∧ Hid (∀ (j : Nat) (x : Tn), j < k → L[j]? = some x → okNb x = true)) (fun i _ => N - (intOf i).toNat)
      case atStart => exact ⟨0, by omega, rfl, Fr.refl _ _, fun j x h => by omega⟩
      case round =>
        obtain ⟨k, hk, rfl, fk, HK⟩ := hrel
        by_cases hlt2 : k < N
        · obtain ⟨x, hkx⟩ := HE3.out k hlt2
          obtain ⟨b, o, rfl, c0, c1⟩ := HX.out k x hkx
          replace c0 := cell_keep fk c0 (fun h => h)
          replace c1 := cell_keep fk c1 (fun h => h)
          have i1 : 0 ≤ (k : Int) ∧ (k : Int) < (N : Int) := by omega
          have fa := (Fr.refl none' wr).alloc (.cells #[.int .i64 x.d, .int .i64 x.n] 33)
          have f2 := fk.trans fa
          have ra := row_alloc wr #[.int .i64 x.d, .int .i64 x.n] 33
          have a0 := ra.cell 0
          have a1 := ra.cell 1
          dsimp at a0 a1
          have hT' := hT x
          cases hb : okNb x with
          | false =>
            rw [hb] at hT'
            have HZ : Hid (newB L = false) := HL.out k x hkx hb
            clear hkx hb ra fa HE3 HX HG HL HK HC
            go_wp2_with (go_at_call 24; refine (hT' _).mono ?_; rintro e w1 ⟨rfl, f1⟩)
            refine bodyPost_ret (results_tmp2 rfl _ _ _) rfl ?_
            exact HB.out _ HZ.out (f2.trans f1)
          | true =>
            rw [hb] at hT'
            have HK2 : Hid (∀ (j : Nat) (x : Tn), j < k + 1 → L[j]? = some x → okNb x = true) := fun j y hj hy => by
              by_cases e : j = k
              · subst e
                rw [hkx] at hy
                cases hy
                exact hb
              · exact HK.out j y (by omega) hy
            clear hkx hb ra fa HE3 HX HG HL HK HC
            go_wp2_with (go_at_call 24; refine (hT' _).mono ?_; rintro e w1 ⟨rfl, f1⟩)
            go_roundw
            case rel => exact ⟨k + 1, by omega, by go_num, f2.trans f1, HK2⟩
            case measure => simp [intOf]; omega
        · have hge : ¬ (k : Int) < (N : Int) := by omega
          have HZ : Hid (newB L = true) := HG.out fun j x hj hx => HK.out j x (by omega) hx
          clear HE3 HX HG HL HK
          go_wp2_with (go_at_call 25; refine (HC.out _ fk).mono ?_; rintro e w1 ⟨g1, cp1, rfl, f1, HO, n0, cn, H0⟩)
          refine bodyPost_ret (results_tmp2 rfl _ _ _) rfl ?_
          exact HN.out _ _ n0 HZ.out f1 HO.out H0.out
    · have HZ : Hid (newB L = false) := by
        unfold newB
        rw [Bool.and_eq_false_iff]
        exact Or.inl (by simpa using h8)
      have t8 : decide (8 < L.length) = true := by simp; omega
      have i8 : ¬ (L.length : Int) ≤ 8 := by omega
      clear hv hx hnil
      generalize L.length = N at *
      go_enter Try.func10, Try.ntmps10
      go_wp2_with fail
      refine bodyPost_ret (results_tmp2 rfl _ _ _) rfl ?_
      exact HB.out _ HZ.out (Fr.refl _ _)

end Go.Proofs.Ytipfgenbfnkpfaa
