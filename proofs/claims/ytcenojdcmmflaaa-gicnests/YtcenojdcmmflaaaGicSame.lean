/-
  Contracts of 'awake' and 'same' over the translation. No statement is proved here.
-/
import Derived.Test.YtcenojdcmmflaaaGicDoes
import Derived.Test.YtcenojdcmmflaaaGicState
namespace Go.Proofs.Ytcenojdcmmflaaa
open Go.RowKit

theorem ack_yes {T : Nat → Li} {m : Int} {k : Nat} (h : nextO T m = true) (e : nextL T m = k) : ackA T m = (k : Int) ∧ ackT T m = upd T k (fAck (T k)) := by
  subst e; simp [ackA, ackT, h]
theorem ack_no {T : Nat → Li} {m : Int} (h : nextO T m = false) : ackA T m = 1023 ∧ ackT T m = T := by simp [ackA, ackT, h]

set_option maxRecDepth 100000 in
set_option maxHeartbeats 2000000 in
theorem awake_any (w : World) : Calls Try.prog 8 #[] w fun e w' => e = .returned (.bool true) ∧ Fr none' w w' := by
  obtain ⟨T0, e0⟩ : ∃ T : Nat → Li, T = fun _ => zi := ⟨_, rfl⟩
  obtain ⟨T1, e1⟩ : ∃ T, T = chT T0 3 (fEn true) := ⟨_, rfl⟩
  obtain ⟨T2, e2⟩ : ∃ T, T = chT T1 5 (fEn true) := ⟨_, rfl⟩
  obtain ⟨T3, e3⟩ : ∃ T, T = prT T2 5 10 := ⟨_, rfl⟩
  obtain ⟨T4, e4⟩ : ∃ T, T = chT T3 3 (fPe true) := ⟨_, rfl⟩
  obtain ⟨T5, e5⟩ : ∃ T, T = chT T4 5 (fPe true) := ⟨_, rfl⟩
  obtain ⟨T6, e6⟩ : ∃ T, T = upd T5 5 (fAck (T5 5)) := ⟨_, rfl⟩
  obtain ⟨T7, e7⟩ : ∃ T, T = prT T6 3 4 := ⟨_, rfl⟩
  obtain ⟨T8, e8⟩ : ∃ T, T = upd T7 3 (fAck (T7 3)) := ⟨_, rfl⟩
  obtain ⟨T9, e9⟩ : ∃ T, T = enT T8 5 := ⟨_, rfl⟩
  have a1 := ack_yes (T := T5) (m := 256) (k := 5) (by subst e5 e4 e3 e2 e1 e0; decide +kernel) (by subst e5 e4 e3 e2 e1 e0; decide +kernel)
  have a2 := ack_no (T := T6) (m := 256) (by subst e6 e5 e4 e3 e2 e1 e0; decide +kernel)
  have a3 := ack_yes (T := T7) (m := 256) (k := 3) (by subst e7 e6 e5 e4 e3 e2 e1 e0; decide +kernel) (by subst e7 e6 e5 e4 e3 e2 e1 e0; decide +kernel)
  have a4 : run T8 = 4 := by subst e8 e7 e6 e5 e4 e3 e2 e1 e0; decide +kernel
  have a5 : enE T8 5 = 0 := by subst e8 e7 e6 e5 e4 e3 e2 e1 e0; decide +kernel
  have a6 : enE T9 5 = 70 := by subst e9 e8 e7 e6 e5 e4 e3 e2 e1 e0; decide +kernel
  have b1 : errL 3 = 0 := by decide
  have b2 : errL 5 = 0 := by decide
  have b3 : prE 5 10 = 0 := by decide
  have b4 : prE 3 4 = 0 := by decide
  rw [← e6] at a1
  rw [← e8] at a3
  go_enter Try.func8, Try.ntmps8
  go_wp2_with fail
  refine (new_any _).mono ?_
  rintro e w1 ⟨b, rfl, hb, f1, t1⟩
  rw [← e0] at t1
  have S : Fr (at' b) w w1 := f1.mono (fun _ _ h => h.elim)
  clear f1
  go_wp2_with fail
  refine (enable_any _ _ _ _ t1 3 true).mono ?_
  rintro e w2 ⟨rfl, f2, t2⟩
  rw [← e1] at t2
  rw [b1]
  replace S := S.trans f2
  clear f2 t1
  go_wp2_with fail
  refine (enable_any _ _ _ _ t2 5 true).mono ?_
  rintro e w3 ⟨rfl, f2, t3⟩
  rw [← e2] at t3
  rw [b2]
  replace S := S.trans f2
  clear f2 t2
  go_wp2_with fail
  refine (prior_any _ _ _ _ t3 5 10).mono ?_
  rintro e w4 ⟨rfl, f2, t4⟩
  rw [← e3] at t4
  rw [b3]
  replace S := S.trans f2
  clear f2 t3
  go_wp2_with fail
  refine (raise_any _ _ _ _ t4 3).mono ?_
  rintro e w5 ⟨rfl, f2, t5⟩
  rw [← e4] at t5
  rw [b1]
  replace S := S.trans f2
  clear f2 t4
  go_wp2_with fail
  refine (raise_any _ _ _ _ t5 5).mono ?_
  rintro e w6 ⟨rfl, f2, t6⟩
  rw [← e5] at t6
  rw [b2]
  replace S := S.trans f2
  clear f2 t5
  go_wp2_with fail
  refine (ack_any _ _ _ _ t6).mono ?_
  rintro e w7 ⟨rfl, f2, t7⟩
  rw [a1.2] at t7
  rw [a1.1]
  replace S := S.trans f2
  clear f2 t6
  go_wp2_with fail
  refine (ack_any _ _ _ _ t7).mono ?_
  rintro e w8 ⟨rfl, f2, t8⟩
  rw [a2.2] at t8
  rw [a2.1]
  replace S := S.trans f2
  clear f2 t7
  go_wp2_with fail
  refine (prior_any _ _ _ _ t8 3 4).mono ?_
  rintro e w9 ⟨rfl, f2, t9⟩
  rw [← e7] at t9
  rw [b4]
  replace S := S.trans f2
  clear f2 t8
  go_wp2_with fail
  refine (ack_any _ _ _ _ t9).mono ?_
  rintro e w10 ⟨rfl, f2, t10⟩
  rw [a3.2] at t10
  rw [a3.1]
  replace S := S.trans f2
  clear f2 t9
  go_wp2_with fail
  refine (running_any _ _ _ _ t10).mono ?_
  rintro e w11 ⟨rfl, f2⟩
  rw [a4]
  replace t10 := t10.keep f2 (fun h => h)
  replace S := S.trans (f2.mono (fun _ _ h => h.elim))
  clear f2
  go_wp2_with fail
  refine (end_any _ _ _ _ t10 5).mono ?_
  rintro e w12 ⟨rfl, f2, t12⟩
  rw [← e9] at t12
  rw [a5]
  replace S := S.trans f2
  clear f2 t10
  go_wp2_with fail
  refine (end_any _ _ _ _ t12 5).mono ?_
  rintro e w13 ⟨rfl, f2, t13⟩
  rw [a6]
  replace S := S.trans f2
  clear f2 t12
  go_wp2_with fail
  go_ret
  exact ⟨rfl, (Fr.refl none' w).newer S hb⟩

theorem neq_lr (n p : Int) (x y z : Bool) (w : World) : (binOp .neq 39 (.agg #[.int .i64 n, .int .i64 p, .bool x, .bool y, .bool z]) (.agg #[.int .i64 n, .int .i64 p, .bool x, .bool y, .bool z])).run Try.prog w = .ok (.bool false) w := by
  simp [go_sem]

set_option maxRecDepth 100000 in
set_option maxHeartbeats 2000000 in
theorem same_any (w : World) (B bt br : Nat) (T : Nat → Li) (m : Int) (h : Pair w B bt br T m) :
    Calls Try.prog 12 #[.pointer (some ⟨bt, 0, none⟩), .pointer (some ⟨br, 0, none⟩)] w fun e w' => e = .returned (.bool true) ∧ Fr none' w w' := by
  have u1 : ((nextL T m : Int) != (nextL T m : Int)) = false := by simp
  have u2 : (nextO T m != nextO T m) = false := by simp
  have u3 : (run T != run T) = false := by simp
  have hq := neq_lr
  have N1 : isL 32 = false := by decide
  have N2 : isL (-1) = false := by decide
  go_enter Try.func12, Try.ntmps12
  go_wp2_with fail
  refine (next_any _ _ _ _ h.gic).mono ?_
  rintro e w1 ⟨rfl, f1⟩
  replace h := h.keep0 f1
  go_wp2_with fail
  refine (rnext_any _ _ _ _ h.ref h.good).mono ?_
  rintro e w2 ⟨rfl, f2⟩
  replace h := h.keep0 f2
  replace f1 := f1.trans f2
  clear f2
  go_wp2_with fail
  refine (running_any _ _ _ _ h.gic).mono ?_
  rintro e w3 ⟨rfl, f2⟩
  replace h := h.keep0 f2
  replace f1 := f1.trans f2
  clear f2
  go_wp2_with fail
  refine (rrunning_any _ _ _ _ h.ref).mono ?_
  rintro e w4 ⟨rfl, f2⟩
  replace h := h.keep0 f2
  replace f1 := f1.trans f2
  clear f2
  go_wp2_with fail
  go_loopw [10] (fun i wr => ∃ k : Nat, k ≤ 32 ∧ i = .int .i64 k ∧ Fr none' w wr ∧ Pair wr B bt br T m) (fun i _ => 32 - (intOf i).toNat)
  case atStart => exact ⟨0, by omega, rfl, f1, h⟩
  case round =>
    clear f1 h
    obtain ⟨k, hk, rfl, fk, hP⟩ := hrel
    by_cases hlt : k < 32
    · have i1 : 0 ≤ (k : Int) ∧ (k : Int) < 32 := by omega
      have H := state_in _ _ _ _ hP.gic k hlt
      unfold lrc at H
      go_wp2_with fail
      refine H.mono ?_
      rintro e w5 ⟨rfl, f5⟩
      replace fk := fk.trans f5
      replace hP := hP.keep0 f5
      clear f5 H
      have fa := (Fr.refl none' w5).alloc (.cells #[.int .i64 (k : Int), .int .i64 (T k).p, .bool (T k).en, .bool (T k).pe, .bool (act (T k))] 39)
      have ra := row_alloc w5 #[.int .i64 (k : Int), .int .i64 (T k).p, .bool (T k).en, .bool (T k).pe, .bool (act (T k))] 39
      replace hP := hP.keep0 fa
      replace fk := fk.trans fa
      obtain ⟨c0, c1, c2, c3, _⟩ := hP.ref.cells k hlt
      obtain ⟨d0, d1, d2, d3, d4⟩ := row5 ra
      go_wp2_with fail
      go_quiet (fail)
      go_wp2_with fail
      go_roundw
      case rel => exact ⟨k + 1, by omega, by go_num, fk.trans (fr_drewN _ _), hP.keep0 (fr_drewN _ _)⟩
      case measure => simp [intOf]; omega
    · obtain rfl : k = 32 := by omega
      have H := state_out wr (.pointer (some ⟨bt, 0, none⟩)) 32 N1
      unfold zlr at H
      go_wp2_with fail
      refine H.mono ?_
      rintro e w5 ⟨rfl, f5⟩
      replace fk := fk.trans f5
      clear f5 H hP
      have fa := (Fr.refl none' w5).alloc (.cells #[.int .i64 0, .int .i64 0, .bool false, .bool false, .bool false] 39)
      replace fk := fk.trans fa
      have H := state_out (w5.alloc (.cells #[.int .i64 0, .int .i64 0, .bool false, .bool false, .bool false] 39)) (.pointer (some ⟨bt, 0, none⟩)) (-1) N2
      unfold zlr at H
      clear fa
      go_wp2_with fail
      refine H.mono ?_
      rintro e w6 ⟨rfl, f5⟩
      replace fk := fk.trans f5
      clear f5 H
      go_wp2_with fail
      go_ret
      exact ⟨rfl, fk.alloc _⟩

end Go.Proofs.Ytcenojdcmmflaaa
