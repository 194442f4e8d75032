/-
  GicMasks over the translation: whatever line, priority and mask came in, the law returns true, and nothing old turns. No statement is proved here.
-/
import Derived.Test.YtcenojdcmmflaaaGicActs
namespace Go.Proofs.Ytcenojdcmmflaaa
open Go.RowKit

/-- One line alone that is enabled. -/
theorem one_next (k : Nat) (hk : k < 32) (p m : Int) (en pe : Bool) (hm : m ≤ 256) :
    nextO (upd (fun _ => zi) k ⟨p, 256, en, pe⟩) m = (en && (pe && decide (p < m))) ∧ ((en && (pe && decide (p < m))) = true → nextL (upd (fun _ => zi) k ⟨p, 256, en, pe⟩) m = k) := by
  have hr : run (upd (fun _ => zi) k ⟨p, 256, en, pe⟩) = 256 := run_none (fun j _ => by
    by_cases e : j = k
    · subst e; rw [upd_same]; rfl
    · rw [upd_other _ _ e]; rfl)
  have hb : bound (upd (fun _ => zi) k ⟨p, 256, en, pe⟩) m = m := by unfold bound; rw [hr]; omega
  have hoth : ∀ j, j ≠ k → may m (upd (fun _ => zi) k ⟨p, 256, en, pe⟩ j) = false := fun j e => by rw [upd_other _ _ e]; rfl
  have hk' : may m (upd (fun _ => zi) k ⟨p, 256, en, pe⟩ k) = (en && (pe && decide (p < m))) := by rw [upd_same]; simp [may, act]
  cases h : (en && (pe && decide (p < m))) with
  | true =>
    have := next_unique (best_next m (upd (fun _ => zi) k ⟨p, 256, en, pe⟩) 32) (q := (k, true)) ⟨fun _ => ⟨hk, hk'.trans h, fun j hj hmj => by
      by_cases e : j = k
      · subst e; exact Or.inr ⟨rfl, Nat.le_refl _⟩
      · rw [hoth j e] at hmj; exact absurd hmj (by simp)⟩, fun h => by simp at h⟩
    unfold nextO nextL; rw [hb, this]; exact ⟨rfl, fun _ => rfl⟩
  | false =>
    have := next_unique (best_next m (upd (fun _ => zi) k ⟨p, 256, en, pe⟩) 32) (q := (0, false)) ⟨fun h => by simp at h, fun _ => ⟨rfl, fun j hj => by
      by_cases e : j = k
      · subst e; rw [hk', h]
      · exact hoth j e⟩⟩
    unfold nextO nextL; rw [hb, this]; exact ⟨rfl, fun h => by simp at h⟩

set_option maxRecDepth 100000 in
set_option maxHeartbeats 4000000 in
theorem masks_in (k : Nat) (p m : Int) (w : World) (hk : k < 32) (hp : 0 ≤ p ∧ p ≤ 255) (hm : 0 ≤ m ∧ m ≤ 256) :
    Calls Try.prog 6 #[.int .i64 (k : Int), .int .i64 p, .int .i64 m] w fun e w' => e = .returned (.bool true) ∧ Fr none' w w' := by
  have g1 : decide ((k : Int) < 0) = false := decide_eq_false (by omega)
  have g2 : decide (31 < (k : Int)) = false := decide_eq_false (by omega)
  have g3 : decide (p < 0) = false := decide_eq_false (by omega)
  have g4 : decide (255 < p) = false := decide_eq_false (by omega)
  have g5 : decide (m < 0) = false := decide_eq_false (by omega)
  have g6 : decide (256 < m) = false := decide_eq_false (by omega)
  have hL : isL (k : Int) = true := isL_iff.mpr (by omega)
  have hP : isP p = true := isP_iff.mpr hp
  have hM : isM m = true := isM_iff.mpr hm
  have hM2 : isM 256 = true := by decide
  have em : maM 256 m = m := by simp [maM, hM]
  have em2 : maM m 256 = 256 := by simp [maM, hM2]
  have ee : maE m = 0 := by simp [maE, hM]
  have ee2 : maE 256 = 0 := by decide
  have ep : prE (k : Int) p = 0 := by rw [pe_ok hP, err_in hL]
  have ek := err_in hL
  have T1 : prT (fun _ => zi) (k : Int) p = upd (fun _ => zi) k ⟨p, 256, false, false⟩ := by rw [pr_ok hP, ch_in hL]; rfl
  have T2 : chT (upd (fun _ => zi) k ⟨p, 256, false, false⟩) (k : Int) (fPe true) = upd (fun _ => zi) k ⟨p, 256, false, true⟩ := by rw [ch_in hL, upd_same, upd_upd]; rfl
  have T3 : chT (upd (fun _ => zi) k ⟨p, 256, false, true⟩) (k : Int) (fEn true) = upd (fun _ => zi) k ⟨p, 256, true, true⟩ := by rw [ch_in hL, upd_same, upd_upd]; rfl
  have n1 : nextO (upd (fun _ => zi) k ⟨p, 256, false, true⟩) 256 = false := (one_next k hk p 256 false true (by omega)).1
  have n2 := (one_next k hk p m true true hm.2).1
  have n2' := (one_next k hk p m true true hm.2).2
  have hp256 : decide (p < 256) = true := decide_eq_true (by omega)
  have n3 : nextO (upd (fun _ => zi) k ⟨p, 256, true, true⟩) 256 = true := by rw [(one_next k hk p 256 true true (by omega)).1, hp256]; rfl
  have n3' : nextL (upd (fun _ => zi) k ⟨p, 256, true, true⟩) 256 = k := (one_next k hk p 256 true true (by omega)).2 (by rw [hp256]; rfl)
  have e1 : ((k : Int) == (k : Int)) = true := by simp
  clear hk hp hm hL hP hM hM2 hp256
  simp only [Bool.true_and] at n2 n2'
  go_enter Try.func6, Try.ntmps6
  go_wp2_with fail
  refine (awake_any _).mono ?_
  rintro e w1 ⟨rfl, f1⟩
  go_wp2_with fail
  refine (new_any _).mono ?_
  rintro e w2 ⟨b, rfl, hb, f2, t2⟩
  replace hb := Nat.le_trans f1.size hb
  have S : Fr (at' b) w w2 := (f1.trans f2).mono (fun _ _ h => h.elim)
  clear f1 f2
  go_wp2_with fail
  refine (prior_any _ _ _ _ t2 (k : Int) p).mono ?_
  rintro e w3 ⟨rfl, f2, t3⟩
  rw [T1] at t3
  rw [ep]
  replace S := S.trans f2
  clear f2 t2
  go_wp2_with fail
  refine (raise_any _ _ _ _ t3 (k : Int)).mono ?_
  rintro e w4 ⟨rfl, f2, t4⟩
  rw [T2] at t4
  rw [ek]
  replace S := S.trans f2
  clear f2 t3
  go_wp2_with fail
  refine (next_any _ _ _ _ t4).mono ?_
  rintro e w5 ⟨rfl, f2⟩
  rw [n1]
  replace t4 := t4.keep f2 (fun h => h)
  replace S := S.trans (f2.mono (fun _ _ h => h.elim))
  clear f2
  go_wp2_with fail
  refine (enable_any _ _ _ _ t4 (k : Int) true).mono ?_
  rintro e w6 ⟨rfl, f2, t6⟩
  rw [T3] at t6
  rw [ek]
  replace S := S.trans f2
  clear f2 t4
  go_wp2_with fail
  refine (mask_any _ _ _ _ t6 m).mono ?_
  rintro e w7 ⟨rfl, f2, t7⟩
  rw [em] at t7
  rw [ee]
  replace S := S.trans f2
  clear f2 t6
  go_wp2_with fail
  refine (next_any _ _ _ _ t7).mono ?_
  rintro e w8 ⟨rfl, f2⟩
  rw [n2]
  replace t7 := t7.keep f2 (fun h => h)
  replace S := S.trans (f2.mono (fun _ _ h => h.elim))
  clear f2
  go_wp2_with fail
  refine (mask_any _ _ _ _ t7 256).mono ?_
  rintro e w9 ⟨rfl, f2, t9⟩
  rw [em2] at t9
  rw [ee2]
  replace S := S.trans f2
  clear f2 t7
  go_wp2_with fail
  refine (next_any _ _ _ _ t9).mono ?_
  rintro e w10 ⟨rfl, f2⟩
  rw [n3, n3']
  replace S := S.trans (f2.mono (fun _ _ h => h.elim))
  clear f2 t9 T1 T2 T3 n1 n3 n3' em em2 ee ee2 ep ek g1 g2 g3 g4 g5 g6
  cases hpm : decide (p < m) with
  | true =>
    have l1 := n2' hpm
    rw [l1]
    clear n2 n2' l1
    go_wp2_with fail
    go_ret
    exact ⟨rfl, (Fr.refl none' w).newer S hb⟩
  | false =>
    clear n2 n2'
    go_wp2_with fail
    go_ret
    exact ⟨rfl, (Fr.refl none' w).newer S hb⟩

set_option maxRecDepth 100000 in
set_option maxHeartbeats 1000000 in
theorem masks_out (k p m : Int) (w : World) (h : k < 0 ∨ (¬ k < 0 ∧ (31 < k ∨ (¬ 31 < k ∧ (p < 0 ∨ (¬ p < 0 ∧ (255 < p ∨ (¬ 255 < p ∧ (m < 0 ∨ (¬ m < 0 ∧ 256 < m)))))))))) :
    Calls Try.prog 6 #[.int .i64 k, .int .i64 p, .int .i64 m] w fun e w' => e = .returned (.bool true) ∧ Fr none' w w' := by
  rcases h with h1 | ⟨h1, h2 | ⟨h2, h3 | ⟨h3, h4 | ⟨h4, h5 | ⟨h5, h6⟩⟩⟩⟩⟩
  · have g1 : decide (k < 0) = true := decide_eq_true h1
    clear h1
    go_enter Try.func6, Try.ntmps6
    go_wp2_with fail
    refine (awake_any _).mono ?_
    rintro e w1 ⟨rfl, f1⟩
    go_wp2_with fail
    refine (new_any _).mono ?_
    rintro e w2 ⟨b, rfl, hb, f2, t2⟩
    go_wp2_with fail
    go_ret
    exact ⟨rfl, f1.trans f2⟩
  · have g1 : decide (k < 0) = false := decide_eq_false h1
    have g2 : decide (31 < k) = true := decide_eq_true h2
    clear h1 h2
    go_enter Try.func6, Try.ntmps6
    go_wp2_with fail
    refine (awake_any _).mono ?_
    rintro e w1 ⟨rfl, f1⟩
    go_wp2_with fail
    refine (new_any _).mono ?_
    rintro e w2 ⟨b, rfl, hb, f2, t2⟩
    go_wp2_with fail
    go_ret
    exact ⟨rfl, f1.trans f2⟩
  · have g1 : decide (k < 0) = false := decide_eq_false h1
    have g2 : decide (31 < k) = false := decide_eq_false h2
    have g3 : decide (p < 0) = true := decide_eq_true h3
    clear h1 h2 h3
    go_enter Try.func6, Try.ntmps6
    go_wp2_with fail
    refine (awake_any _).mono ?_
    rintro e w1 ⟨rfl, f1⟩
    go_wp2_with fail
    refine (new_any _).mono ?_
    rintro e w2 ⟨b, rfl, hb, f2, t2⟩
    go_wp2_with fail
    go_ret
    exact ⟨rfl, f1.trans f2⟩
  · have g1 : decide (k < 0) = false := decide_eq_false h1
    have g2 : decide (31 < k) = false := decide_eq_false h2
    have g3 : decide (p < 0) = false := decide_eq_false h3
    have g4 : decide (255 < p) = true := decide_eq_true h4
    clear h1 h2 h3 h4
    go_enter Try.func6, Try.ntmps6
    go_wp2_with fail
    refine (awake_any _).mono ?_
    rintro e w1 ⟨rfl, f1⟩
    go_wp2_with fail
    refine (new_any _).mono ?_
    rintro e w2 ⟨b, rfl, hb, f2, t2⟩
    go_wp2_with fail
    go_ret
    exact ⟨rfl, f1.trans f2⟩
  · have g1 : decide (k < 0) = false := decide_eq_false h1
    have g2 : decide (31 < k) = false := decide_eq_false h2
    have g3 : decide (p < 0) = false := decide_eq_false h3
    have g4 : decide (255 < p) = false := decide_eq_false h4
    have g5 : decide (m < 0) = true := decide_eq_true h5
    clear h1 h2 h3 h4 h5
    go_enter Try.func6, Try.ntmps6
    go_wp2_with fail
    refine (awake_any _).mono ?_
    rintro e w1 ⟨rfl, f1⟩
    go_wp2_with fail
    refine (new_any _).mono ?_
    rintro e w2 ⟨b, rfl, hb, f2, t2⟩
    go_wp2_with fail
    go_ret
    exact ⟨rfl, f1.trans f2⟩
  · have g1 : decide (k < 0) = false := decide_eq_false h1
    have g2 : decide (31 < k) = false := decide_eq_false h2
    have g3 : decide (p < 0) = false := decide_eq_false h3
    have g4 : decide (255 < p) = false := decide_eq_false h4
    have g5 : decide (m < 0) = false := decide_eq_false h5
    have g6 : decide (256 < m) = true := decide_eq_true h6
    clear h1 h2 h3 h4 h5 h6
    go_enter Try.func6, Try.ntmps6
    go_wp2_with fail
    refine (awake_any _).mono ?_
    rintro e w1 ⟨rfl, f1⟩
    go_wp2_with fail
    refine (new_any _).mono ?_
    rintro e w2 ⟨b, rfl, hb, f2, t2⟩
    go_wp2_with fail
    go_ret
    exact ⟨rfl, f1.trans f2⟩

theorem masks_any (k p m : Int) (w : World) :
    Calls Try.prog 6 #[.int .i64 k, .int .i64 p, .int .i64 m] w fun e w' => e = .returned (.bool true) ∧ Below w.heap.size w w' := by
  have H : Calls Try.prog 6 #[.int .i64 k, .int .i64 p, .int .i64 m] w fun e w' => e = .returned (.bool true) ∧ Fr none' w w' := by
    by_cases h : 0 ≤ k ∧ k < 32 ∧ 0 ≤ p ∧ p ≤ 255 ∧ 0 ≤ m ∧ m ≤ 256
    · obtain ⟨q, rfl⟩ : ∃ q : Nat, k = (q : Int) := ⟨k.toNat, by omega⟩
      exact masks_in q p m w (by omega) (by omega) (by omega)
    · exact masks_out k p m w (by omega)
  exact H.mono fun _ _ ⟨he, hf⟩ => ⟨he, hf.below (Nat.le_refl _) (fun _ h => h.elim)⟩

end Go.Proofs.Ytcenojdcmmflaaa
