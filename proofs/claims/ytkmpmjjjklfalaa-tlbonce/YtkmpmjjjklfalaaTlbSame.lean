/-
  Contracts of 'awake' and 'same' over the translation. No statement is proved here.
-/
import Derived.Test.YtkmpmjjjklfalaaTlbDoes
import Derived.Test.YtkmpmjjjklfalaaTlbLns
namespace Go.Proofs.Ytkmpmjjjklfalaa
open Go.RowKit

set_option maxRecDepth 100000 in
set_option maxHeartbeats 2000000 in
theorem awake_any (w : World) : Calls Try.prog 9 #[] w fun e w' => e = .returned (.bool true) ∧ Fr none' w w' := by
  have a1 : fillE 0 ⟨1, 2, 3, 4, 5⟩ = 0 := by decide
  have a2 : fillE 7 ⟨1, 2, 3, 9, 1⟩ = 0 := by decide
  have a3 : fillE 0 zl = 30 := by decide
  obtain ⟨T0, e0⟩ : ∃ T0 : Nat → Ln, T0 = fun _ => zl := ⟨_, rfl⟩
  obtain ⟨T1, e1⟩ : ∃ T1, T1 = fillT T0 0 ⟨1, 2, 3, 4, 5⟩ := ⟨_, rfl⟩
  obtain ⟨T2, e2⟩ : ∃ T2, T2 = fillT T1 7 ⟨1, 2, 3, 9, 1⟩ := ⟨_, rfl⟩
  obtain ⟨T3, e3⟩ : ∃ T3, T3 = wipe (fun l => l.v == 1 && l.p == 3) T2 := ⟨_, rfl⟩
  have i1 : idx T1 1 2 3 8 = 0 := by subst e1; subst e0; decide
  have i2 : idx T2 1 2 3 8 = 7 := by subst e2; subst e1; subst e0; decide
  have v1 : ansF T1 0 = 4 := by subst e1; subst e0; decide
  have v2 : ansR T1 0 = 5 := by subst e1; subst e0; decide
  have v3 : ansF T2 7 = 9 := by subst e2; subst e1; subst e0; decide
  have v4 : cnt (fun l => l.v == 1 && l.p == 3) T2 8 = 1 := by subst e2; subst e1; subst e0; decide
  have v5 : cnt (fun _ => true) T3 8 = 0 := by subst e3; subst e2; subst e1; subst e0; decide
  have v6 : ansB 0 = true := rfl
  have v7 : ansB 7 = true := rfl
  have v8 : moreF 0 = 1 := rfl
  have v9 : moreF 7 = 1 := rfl
  have v10 : moreM 0 = 0 := rfl
  have v11 : moreM 7 = 0 := rfl
  go_enter Try.func9, Try.ntmps9
  go_wp2_with fail
  refine (new_any _).mono ?_
  rintro e w1 ⟨b, rfl, hb, f1, t1⟩
  rw [← e0] at t1
  have S : Fr (at' b) w w1 := f1.mono (fun _ _ h => h.elim)
  clear f1
  go_wp2_with fail
  refine (fill_any _ _ _ _ _ t1 0 ⟨1, 2, 3, 4, 5⟩).mono ?_
  rintro e w2 ⟨rfl, f2, t2⟩
  rw [← e1] at t2
  rw [a1]
  replace S := S.trans f2
  clear f2 t1
  go_wp2_with fail
  refine (find_any _ _ _ _ _ 1 2 3 t2 (by omega) (by omega)).mono ?_
  rintro e w3 ⟨rfl, f3, t3⟩
  rw [i1, v8, v10] at t3
  rw [i1, v1, v2, v6]
  replace S := S.trans f3
  clear f3 t2
  go_wp2_with fail
  refine (fill_any _ _ _ _ _ t3 7 ⟨1, 2, 3, 9, 1⟩).mono ?_
  rintro e w4 ⟨rfl, f4, t4⟩
  rw [← e2] at t4
  rw [a2]
  replace S := S.trans f4
  clear f4 t3
  go_wp2_with fail
  refine (find_any _ _ _ _ _ 1 2 3 t4 (by decide) (by decide)).mono ?_
  rintro e w5 ⟨rfl, f5, t5⟩
  rw [i2, v9, v11] at t5
  rw [i2, v3, v7]
  replace S := S.trans f5
  clear f5 t4
  go_wp2_with fail
  refine (flush_page _ _ _ _ _ 1 3 t5).mono ?_
  rintro e w6 ⟨rfl, f6, t6⟩
  rw [← e3] at t6
  rw [v4]
  replace S := S.trans f6
  clear f6 t5
  go_wp2_with fail
  refine (flush_all _ _ _ _ _ t6).mono ?_
  rintro e w7 ⟨rfl, f7, t7⟩
  rw [v5]
  replace S := S.trans f7
  clear f7 t6
  go_wp2_with fail
  refine (fill_any _ _ _ _ _ t7 0 zl).mono ?_
  rintro e w8 ⟨rfl, f8, t8⟩
  rw [a3]
  replace S := S.trans f8
  clear f8 t7
  go_wp2_with fail
  refine (counts_any _ _ _ _ _ t8).mono ?_
  rintro e w9 ⟨rfl, f9⟩
  replace S := S.trans (f9.mono (T := at' b) (fun _ _ h => h.elim))
  clear f9 t8
  clear e0 e1 e2 e3 i1 i2 v1 v2 v3 v4 v5 v6 v7 v8 v9 v10 v11 a1 a2 a3
  go_wp2_with fail
  go_ret
  exact ⟨rfl, S.mono (fun k hk e => absurd (show k = b from e) (by omega))⟩

/-- What 'same' has turned of its own lines: the frames of the first k. -/
def turned (T : Nat → Ln) (k : Nat) : Nat → Ln := fun j => bif decide (j < k) then ⟨(T j).v, (T j).a, (T j).p, -1, (T j).r⟩ else T j

theorem turned_zero (T : Nat → Ln) : turned T 0 = T := by funext j; simp [turned]
theorem turned_at (T : Nat → Ln) (k : Nat) : turned T k k = T k := by simp [turned]
theorem turned_succ (T : Nat → Ln) (k : Nat) : upd (turned T k) k ⟨(T k).v, (T k).a, (T k).p, -1, (T k).r⟩ = turned T (k + 1) := by
  funext j
  by_cases hj : j = k
  · subst hj; rw [upd_same]; simp [turned]
  · rw [upd_other _ _ hj]
    have : decide (j < k + 1) = decide (j < k) := by simp; omega
    simp only [turned, this]

set_option maxHeartbeats 2000000 in
theorem same_any (w : World) (B bt br : Nat) (T : Nat → Ln) (fo mi : Int) (h : Pair w B bt br T fo mi) :
    Calls Try.prog 12 #[.pointer (some ⟨bt, 0, none⟩), .pointer (some ⟨br, 0, none⟩)] w fun e w' => e = .returned (.bool true) ∧ Fr none' w w' := by
  have hne := neq_line
  have m1 : (fo == fo) = true := by simp
  have m2 : (mi == mi) = true := by simp
  go_enter Try.func12, Try.ntmps12
  go_wp2_with fail
  refine (lines_any _ _ _ _ _ h.tlb).mono ?_
  rintro e w1 ⟨g, rfl, hg, f1, l1⟩
  have hgr : g ≠ br := by have := h.ref.lt; omega
  go_wp2_with fail
  go_loopw [6] (fun i wr => ∃ k : Nat, k ≤ 8 ∧ i = .int .i64 k ∧ Fr none' w wr ∧ LineRow wr g 8 8 (turned T k)) (fun i _ => 8 - (intOf i).toNat)
  case atStart => exact ⟨0, by omega, rfl, f1, by rw [turned_zero]; exact l1⟩
  case round =>
    clear f1 l1
    obtain ⟨k, hk, rfl, fk, lk⟩ := hrel
    have hr := h.ref.keep fk (fun h => h)
    by_cases hlt : k < 8
    · obtain ⟨c0, c1, c2, c3, c4⟩ := lk.cells k hlt
      rw [turned_at] at c0 c1 c2 c3 c4
      obtain ⟨d0, d1, d2, d3, d4⟩ := hr.cells k hlt
      have g3 := lk.frozen (k * 5 + 3)
      have i1 : 0 ≤ (k : Int) ∧ (k : Int) < 8 := by omega
      have i2 : decide ((k : Int) < 8) = true := decide_eq_true (by omega)
      go_wp2_with fail
      go_quiet (fail)
      have f5 := fk.trans (fr_drewN wr nq)
      have l5 := lk.keep (fr_drewN wr nq) (fun h => h)
      go_wp2_with fail
      go_roundw
      case rel => exact ⟨k + 1, by omega, by go_num, f5.setCell (p := ⟨g, k * 5 + 3, none⟩) (Or.inl hg) _, by
        have := l5.setF hlt (-1)
        rw [turned_at, turned_succ] at this
        exact this⟩
      case measure => simp [intOf]; omega
    · obtain rfl : k = 8 := by omega
      have cf := hr.cfo
      have cm := hr.cmi
      go_wp2_with fail
      refine (counts_any _ _ _ _ _ (h.tlb.keep fk (fun h => h))).mono ?_
      rintro e w2 ⟨rfl, f2⟩
      replace hr := hr.keep f2 (fun h => h)
      clear cf cm
      have cf := hr.cfo
      have cm := hr.cmi
      go_wp2_with fail
      go_ret
      exact ⟨rfl, fk.trans f2⟩

end Go.Proofs.Ytkmpmjjjklfalaa
