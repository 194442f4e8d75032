/-
  The contract of 'awake' over the translation. No statement is proved here.
-/
import Derived.Test.YtlbflaebjicmaaaVgActs
namespace Go.Proofs.Ytlbflaebjicmaaa
open Go.RowKit

theorem new_any (w : World) (n : Int) : Calls Try.prog 10 #[.int .i64 n] w fun e w' => (isR n = false ∧ e = .returned (.tuple #[.pointer none, .int .i64 1]) ∧ w' = w) ∨
    (isR n = true ∧ ∃ B : Bk, e = .returned (.tuple #[.pointer (some ⟨B.b, 0, none⟩), .int .i64 0]) ∧ (∀ k, B.s k → w.heap.size ≤ k) ∧ Fr none' w w' ∧ IsVg w' B (zeroV n)) := by
  cases hn : isR n with
  | false => exact (new_bad w n hn).mono fun e w' h => Or.inl ⟨rfl, h⟩
  | true => exact (new_ok w n hn).mono fun e w' h => Or.inr ⟨rfl, h⟩

set_option maxRecDepth 100000 in
set_option maxHeartbeats 4000000 in
theorem awake_any (w : World) : Calls Try.prog 9 #[] w fun e w' => e = .returned (.bool true) ∧ Fr none' w w' := by
  obtain ⟨S0, e0⟩ : ∃ S, S = zeroV 1 := ⟨_, rfl⟩
  obtain ⟨S1, e1⟩ : ∃ S, S = injS S0 7 20 true := ⟨_, rfl⟩
  obtain ⟨S2, e2⟩ : ∃ S, S = injS S1 3 20 false := ⟨_, rfl⟩
  obtain ⟨S3, e3⟩ : ∃ S, S = injS S2 7 1 false := ⟨_, rfl⟩
  obtain ⟨S4, e4⟩ : ∃ S, S = ackS S3 := ⟨_, rfl⟩
  obtain ⟨S5, e5⟩ : ∃ S, S = ackS S4 := ⟨_, rfl⟩
  obtain ⟨S6, e6⟩ : ∃ S, S = injS S5 5 4 true := ⟨_, rfl⟩
  obtain ⟨S7, e7⟩ : ∃ S, S = ackS S6 := ⟨_, rfl⟩
  have a1 : injE S0 7 20 = 0 := by subst e0; decide +kernel
  have a2 : injE S1 3 20 = 0 := by subst e1 e0; decide +kernel
  have a3 : injE S2 7 1 = 80 := by subst e2 e1 e0; decide +kernel
  have a4 : (allL S3).take S3.lrs.toNat = [⟨3, 20, false, true, false⟩] := by subst e3 e2 e1 e0; decide +kernel
  have a5 : ackA S3 = 3 := by subst e3 e2 e1 e0; decide +kernel
  have a6 : ackA S4 = 1023 := by subst e4 e3 e2 e1 e0; decide +kernel
  have a7 : injE S5 5 4 = 0 := by subst e5 e4 e3 e2 e1 e0; decide +kernel
  have a8 : ackA S6 = 5 := by subst e6 e5 e4 e3 e2 e1 e0; decide +kernel
  have a9 : endF S7 5 = true := by subst e7 e6 e5 e4 e3 e2 e1 e0; decide +kernel
  have b1 : endE S7 5 = 0 := by subst e7 e6 e5 e4 e3 e2 e1 e0; decide +kernel
  go_enter Try.func9, Try.ntmps9
  go_wp2_with fail
  refine (new_ok _ 1 (by decide)).mono ?_
  rintro e w1 ⟨B, rfl, hb, f1, t1⟩
  rw [← e0] at t1
  go_wp2_with fail
  refine (inject_any _ B _ t1 7 20 true).mono ?_
  rintro e w2 ⟨rfl, g, t2⟩
  rw [← e1] at t2
  rw [a1]
  have f2 := f1.lone g hb
  clear g t1 f1
  go_wp2_with fail
  refine (inject_any _ B _ t2 3 20 false).mono ?_
  rintro e w3 ⟨rfl, g, t3⟩
  rw [← e2] at t3
  rw [a2]
  have f3 := f2.lone g hb
  clear g t2 f2
  go_wp2_with fail
  refine (inject_any _ B _ t3 7 1 false).mono ?_
  rintro e w4 ⟨rfl, g, t4⟩
  rw [← e3] at t4
  rw [a3]
  have f4 := f3.lone g hb
  clear g t3 f3
  go_wp2_with fail
  refine (lrs_any _ B _ t4).mono ?_
  rintro e w5 ⟨v, rfl, hv, g⟩
  rw [a4] at hv
  have t5 := t4.keep0 g
  have f5 := f4.trans g
  clear g t4 f4
  have q0 := (Fr.refl none' w5).alloc (.cells #[.int .i64 3, .int .i64 20, .bool false, .bool true, .bool false] 53)
  have rq := row_alloc w5 #[.int .i64 3, .int .i64 20, .bool false, .bool true, .bool false] 53
  have hq : LrA (w5.alloc (.cells #[.int .i64 3, .int .i64 20, .bool false, .bool true, .bool false] 53)) (some ⟨w5.heap.size, 0, none⟩) [⟨3, 20, false, true, false⟩] := fun i x hi => by
    match i, hi with
    | 0, hi => simp at hi; subst hi; exact ⟨_, rfl, rq.cell 0, rq.cell 1, rq.cell 2, rq.cell 3, rq.cell 4⟩
    | i + 1, hi => simp at hi
  obtain ⟨va, vc, rfl, _, _, hva, _⟩ := (hv.keep0 q0).open
  have HL := lists_any _ va (some ⟨w5.heap.size, 0, none⟩) vc 1 _ _ hva hq (by simp)
  rw [decide_eq_true rfl] at HL
  clear hv hva hq rq
  go_wp2_with fail
  refine HL.mono ?_
  rintro e w6 ⟨rfl, g⟩
  have t6 := t5.keep0 (q0.trans g)
  have f6 := f5.trans (q0.trans g)
  clear g q0 t5 f5 HL
  go_wp2_with fail
  refine (ack_any _ B _ t6).mono ?_
  rintro e w7 ⟨rfl, g, t7⟩
  rw [← e4] at t7
  rw [a5]
  have f7 := f6.lone g hb
  clear g t6 f6
  go_wp2_with fail
  refine (ack_any _ B _ t7).mono ?_
  rintro e w8 ⟨rfl, g, t8⟩
  rw [← e5] at t8
  rw [a6]
  have f8 := f7.lone g hb
  clear g t7 f7
  go_wp2_with fail
  refine (inject_any _ B _ t8 5 4 true).mono ?_
  rintro e w9 ⟨rfl, g, t9⟩
  rw [← e6] at t9
  rw [a7]
  have f9 := f8.lone g hb
  clear g t8 f8
  go_wp2_with fail
  refine (ack_any _ B _ t9).mono ?_
  rintro e w10 ⟨rfl, g, t10⟩
  rw [← e7] at t10
  rw [a8]
  have f10 := f9.lone g hb
  clear g t9 f9
  go_wp2_with fail
  refine (end_any _ B _ t10 5).mono ?_
  rintro e w11 ⟨rfl, g, t11⟩
  rw [a9, b1]
  have f11 := f10.lone g hb
  clear g t10 f10 t11
  go_wp2_with fail
  refine (new_bad _ 17 (by decide)).mono ?_
  rintro e w12 ⟨rfl, rfl⟩
  go_wp2_with fail
  go_ret
  exact ⟨rfl, f11⟩

end Go.Proofs.Ytlbflaebjicmaaa
