/-
  TlbLines over the translation: whatever line and number came in, the law returns true, and nothing old turns. No statement is proved here.
-/
import Derived.Test.YtkmpmjjjklfalaaTlbActs
namespace Go.Proofs.Ytkmpmjjjklfalaa
open Go.RowKit

theorem idx_zero (v a p : Int) : idx (fun _ => zl) v a p 8 = -1 := idx_none (fun _ _ => rfl)

theorem idx_only (k : Nat) (hk : k < 8) (x : Ln) (hx : rightL x = true) : idx (filled (fun _ => zl) k x) x.v x.a x.p 8 = k := by
  refine idx_at (fun j hj => ?_) ?_ 8 hk
  · rw [filled, upd_other _ _ (by omega)]
    rfl
  · rw [filled, upd_same]
    have he := right_emp hx
    have hq : key x ⟨x.v, x.a, x.p, 0, 0⟩ = true := key_iff.mpr ⟨rfl, rfl, rfl⟩
    simp [hit, he, hq]

set_option maxRecDepth 100000 in
set_option maxHeartbeats 4000000 in
theorem lines_ok (k : Nat) (x : Ln) (w : World) (hk : k < 8) (hx : rightL x = true) :
    Calls Try.prog 4 #[.agg #[.int .i64 x.v, .int .i64 x.a, .int .i64 x.p, .int .i64 x.f, .int .i64 x.r], .int .i64 (k : Int)] w fun e w' => e = .returned (.bool true) ∧ Fr none' w w' := by
  have r0 := row_alloc w #[.int .i64 x.v, .int .i64 x.a, .int .i64 x.p, .int .i64 x.f, .int .i64 x.r] 28
  have f0 := (Fr.refl none' w).alloc (.cells #[.int .i64 x.v, .int .i64 x.a, .int .i64 x.p, .int .i64 x.f, .int .i64 x.r] 28)
  have hi : inB (k : Int) 0 7 = true := inB_iff.mpr (by omega)
  have hE : fillE k x = 0 := by simp [fillE, hi, hx]
  have hT : fillT (fun _ => zl) k x = filled (fun _ => zl) k x := by simp [fillT, hi, hx]
  have hI := idx_only k hk x hx
  have e0 : decide ((k : Int) < 0) = false := decide_eq_false (by omega)
  go_enter Try.func4, Try.ntmps4
  go_wp2_with fail
  refine (awake_any _).mono ?_
  rintro e w1 ⟨rfl, f1⟩
  replace r0 := r0.keep f1 (fun h => h)
  replace f0 := f0.trans f1
  clear f1
  go_wp2_with fail
  refine (new_any _).mono ?_
  rintro e w2 ⟨b, rfl, hb, f2, t2⟩
  have nb : w.heap.size ≠ b := by have := r0.lt; omega
  replace hb := Nat.le_trans f0.size hb
  replace r0 := r0.keep f2 (fun h => h)
  replace f0 := f0.trans f2
  clear f2
  obtain ⟨c0, c1, c2, c3, c4⟩ := row5 r0
  go_wp2_with fail
  refine (right_any x _).mono ?_
  rintro e w3 ⟨rfl, f3⟩
  rw [hx]
  replace r0 := r0.keep f3 (fun h => h)
  replace t2 := t2.keep f3 (fun h => h)
  replace f0 := f0.trans f3
  clear f3 c0 c1 c2 c3 c4
  obtain ⟨c0, c1, c2, c3, c4⟩ := row5 r0
  go_wp2_with fail
  refine (rright_any x _).mono ?_
  rintro e w4 ⟨rfl, f4⟩
  rw [hx]
  replace r0 := r0.keep f4 (fun h => h)
  replace t2 := t2.keep f4 (fun h => h)
  replace f0 := f0.trans f4
  clear f4 c0 c1 c2 c3 c4
  obtain ⟨c0, c1, c2, c3, c4⟩ := row5 r0
  go_wp2_with fail
  refine (fill_any _ _ _ _ _ t2 (k : Int) x).mono ?_
  rintro e w5 ⟨rfl, f5, t5⟩
  rw [hE]
  rw [hT] at t5
  replace r0 := r0.keep f5 nb
  replace f0 := f0.lone f5 hb
  clear f5 c0 c1 c2 c3 c4 t2
  obtain ⟨c0, c1, c2, c3, c4⟩ := row5 r0
  go_wp2_with fail
  refine (find_any _ _ _ _ _ x.v x.a x.p t5 (by omega) (by omega)).mono ?_
  rintro e w6 ⟨rfl, f6, t6⟩
  rw [hI]
  replace r0 := r0.keep f6 nb
  replace f0 := f0.lone f6 hb
  clear f6 c0 c1 c2 c3 c4 t5 t6
  obtain ⟨c0, c1, c2, c3, c4⟩ := row5 r0
  rw [show ansF (filled (fun _ => zl) k x) k = x.f by rw [ansF, e0, filled]; simp [upd_same], show ansR (filled (fun _ => zl) k x) k = x.r by rw [ansR, e0, filled]; simp [upd_same], show ansB k = true by rw [ansB, e0]; rfl]
  have m1 : (x.f == x.f) = true := by simp
  have m2 : (x.r == x.r) = true := by simp
  have u1 : decide (0 ≤ (k : Int)) = true := decide_eq_true (by omega)
  have u2 : decide ((k : Int) < 8) = true := decide_eq_true (by omega)
  clear hE hT hI e0
  go_wp2_with fail
  go_ret
  exact ⟨rfl, f0⟩

set_option maxRecDepth 100000 in
set_option maxHeartbeats 4000000 in
theorem lines_bad (k : Nat) (x : Ln) (w : World) (hk : k < 8) (hx : rightL x = false) :
    Calls Try.prog 4 #[.agg #[.int .i64 x.v, .int .i64 x.a, .int .i64 x.p, .int .i64 x.f, .int .i64 x.r], .int .i64 (k : Int)] w fun e w' => e = .returned (.bool true) ∧ Fr none' w w' := by
  have r0 := row_alloc w #[.int .i64 x.v, .int .i64 x.a, .int .i64 x.p, .int .i64 x.f, .int .i64 x.r] 28
  have f0 := (Fr.refl none' w).alloc (.cells #[.int .i64 x.v, .int .i64 x.a, .int .i64 x.p, .int .i64 x.f, .int .i64 x.r] 28)
  have hi : inB (k : Int) 0 7 = true := inB_iff.mpr (by omega)
  have hE : fillE k x = 30 := by simp [fillE, hi, hx]
  have hT : fillT (fun _ => zl) k x = fun _ => zl := by simp [fillT, hx]
  have hI := idx_zero x.v x.a x.p
  go_enter Try.func4, Try.ntmps4
  go_wp2_with fail
  refine (awake_any _).mono ?_
  rintro e w1 ⟨rfl, f1⟩
  replace r0 := r0.keep f1 (fun h => h)
  replace f0 := f0.trans f1
  clear f1
  go_wp2_with fail
  refine (new_any _).mono ?_
  rintro e w2 ⟨b, rfl, hb, f2, t2⟩
  have nb : w.heap.size ≠ b := by have := r0.lt; omega
  replace hb := Nat.le_trans f0.size hb
  replace r0 := r0.keep f2 (fun h => h)
  replace f0 := f0.trans f2
  clear f2
  obtain ⟨c0, c1, c2, c3, c4⟩ := row5 r0
  go_wp2_with fail
  refine (right_any x _).mono ?_
  rintro e w3 ⟨rfl, f3⟩
  rw [hx]
  replace r0 := r0.keep f3 (fun h => h)
  replace t2 := t2.keep f3 (fun h => h)
  replace f0 := f0.trans f3
  clear f3 c0 c1 c2 c3 c4
  obtain ⟨c0, c1, c2, c3, c4⟩ := row5 r0
  go_wp2_with fail
  refine (rright_any x _).mono ?_
  rintro e w4 ⟨rfl, f4⟩
  rw [hx]
  replace r0 := r0.keep f4 (fun h => h)
  replace t2 := t2.keep f4 (fun h => h)
  replace f0 := f0.trans f4
  clear f4 c0 c1 c2 c3 c4
  obtain ⟨c0, c1, c2, c3, c4⟩ := row5 r0
  go_wp2_with fail
  refine (fill_any _ _ _ _ _ t2 (k : Int) x).mono ?_
  rintro e w5 ⟨rfl, f5, t5⟩
  rw [hE]
  rw [hT] at t5
  replace r0 := r0.keep f5 nb
  replace f0 := f0.lone f5 hb
  clear f5 c0 c1 c2 c3 c4 t2
  obtain ⟨c0, c1, c2, c3, c4⟩ := row5 r0
  go_wp2_with fail
  refine (find_any _ _ _ _ _ x.v x.a x.p t5 (by omega) (by omega)).mono ?_
  rintro e w6 ⟨rfl, f6, t6⟩
  rw [hI]
  replace r0 := r0.keep f6 nb
  replace f0 := f0.lone f6 hb
  clear f6 c0 c1 c2 c3 c4 t5 t6
  obtain ⟨c0, c1, c2, c3, c4⟩ := row5 r0
  have v1 : ansF (fun _ => zl) (-1) = 0 := rfl
  have v2 : ansR (fun _ => zl) (-1) = 0 := rfl
  have v3 : ansB (-1) = false := rfl
  rw [v1, v2, v3]
  clear v1 v2 v3 hE hT hI
  have u1 : decide (0 ≤ (k : Int)) = true := decide_eq_true (by omega)
  have u2 : decide ((k : Int) < 8) = true := decide_eq_true (by omega)
  go_wp2_with fail
  go_ret
  exact ⟨rfl, f0⟩

set_option maxRecDepth 100000 in
set_option maxHeartbeats 4000000 in
theorem lines_low_true (i : Int) (x : Ln) (w : World) (hi : i < 0) (hx : rightL x = true) :
    Calls Try.prog 4 #[.agg #[.int .i64 x.v, .int .i64 x.a, .int .i64 x.p, .int .i64 x.f, .int .i64 x.r], .int .i64 i] w fun e w' => e = .returned (.bool true) ∧ Fr none' w w' := by
  have r0 := row_alloc w #[.int .i64 x.v, .int .i64 x.a, .int .i64 x.p, .int .i64 x.f, .int .i64 x.r] 28
  have f0 := (Fr.refl none' w).alloc (.cells #[.int .i64 x.v, .int .i64 x.a, .int .i64 x.p, .int .i64 x.f, .int .i64 x.r] 28)
  have hi' : inB i 0 7 = false := by
    cases h : inB i 0 7 with
    | false => rfl
    | true => have := inB_iff.mp h; omega
  have hE : fillE i x = 1 := by simp [fillE, hi']
  have hT : fillT (fun _ => zl) i x = fun _ => zl := by simp [fillT, hi']
  have hI := idx_zero x.v x.a x.p
  clear hi'
  go_enter Try.func4, Try.ntmps4
  go_wp2_with fail
  refine (awake_any _).mono ?_
  rintro e w1 ⟨rfl, f1⟩
  replace r0 := r0.keep f1 (fun h => h)
  replace f0 := f0.trans f1
  clear f1
  go_wp2_with fail
  refine (new_any _).mono ?_
  rintro e w2 ⟨b, rfl, hb, f2, t2⟩
  have nb : w.heap.size ≠ b := by have := r0.lt; omega
  replace hb := Nat.le_trans f0.size hb
  replace r0 := r0.keep f2 (fun h => h)
  replace f0 := f0.trans f2
  clear f2
  obtain ⟨c0, c1, c2, c3, c4⟩ := row5 r0
  go_wp2_with fail
  refine (right_any x _).mono ?_
  rintro e w3 ⟨rfl, f3⟩
  rw [hx]
  replace r0 := r0.keep f3 (fun h => h)
  replace t2 := t2.keep f3 (fun h => h)
  replace f0 := f0.trans f3
  clear f3 c0 c1 c2 c3 c4
  obtain ⟨c0, c1, c2, c3, c4⟩ := row5 r0
  go_wp2_with fail
  refine (rright_any x _).mono ?_
  rintro e w4 ⟨rfl, f4⟩
  rw [hx]
  replace r0 := r0.keep f4 (fun h => h)
  replace t2 := t2.keep f4 (fun h => h)
  replace f0 := f0.trans f4
  clear f4 c0 c1 c2 c3 c4
  obtain ⟨c0, c1, c2, c3, c4⟩ := row5 r0
  go_wp2_with fail
  refine (fill_any _ _ _ _ _ t2 i x).mono ?_
  rintro e w5 ⟨rfl, f5, t5⟩
  rw [hE]
  rw [hT] at t5
  replace r0 := r0.keep f5 nb
  replace f0 := f0.lone f5 hb
  clear f5 c0 c1 c2 c3 c4 t2
  obtain ⟨c0, c1, c2, c3, c4⟩ := row5 r0
  go_wp2_with fail
  refine (find_any _ _ _ _ _ x.v x.a x.p t5 (by omega) (by omega)).mono ?_
  rintro e w6 ⟨rfl, f6, t6⟩
  rw [hI]
  replace r0 := r0.keep f6 nb
  replace f0 := f0.lone f6 hb
  clear f6 c0 c1 c2 c3 c4 t5 t6
  obtain ⟨c0, c1, c2, c3, c4⟩ := row5 r0
  have v1 : ansF (fun _ => zl) (-1) = 0 := rfl
  have v2 : ansR (fun _ => zl) (-1) = 0 := rfl
  have v3 : ansB (-1) = false := rfl
  rw [v1, v2, v3]
  clear v1 v2 v3 hE hT hI
  have u1 : decide (0 ≤ i) = false := decide_eq_false (by omega)
  go_wp2_with fail
  go_ret
  exact ⟨rfl, f0⟩

set_option maxRecDepth 100000 in
set_option maxHeartbeats 4000000 in
theorem lines_low_false (i : Int) (x : Ln) (w : World) (hi : i < 0) (hx : rightL x = false) :
    Calls Try.prog 4 #[.agg #[.int .i64 x.v, .int .i64 x.a, .int .i64 x.p, .int .i64 x.f, .int .i64 x.r], .int .i64 i] w fun e w' => e = .returned (.bool true) ∧ Fr none' w w' := by
  have r0 := row_alloc w #[.int .i64 x.v, .int .i64 x.a, .int .i64 x.p, .int .i64 x.f, .int .i64 x.r] 28
  have f0 := (Fr.refl none' w).alloc (.cells #[.int .i64 x.v, .int .i64 x.a, .int .i64 x.p, .int .i64 x.f, .int .i64 x.r] 28)
  have hi' : inB i 0 7 = false := by
    cases h : inB i 0 7 with
    | false => rfl
    | true => have := inB_iff.mp h; omega
  have hE : fillE i x = 1 := by simp [fillE, hi']
  have hT : fillT (fun _ => zl) i x = fun _ => zl := by simp [fillT, hi']
  have hI := idx_zero x.v x.a x.p
  clear hi'
  go_enter Try.func4, Try.ntmps4
  go_wp2_with fail
  refine (awake_any _).mono ?_
  rintro e w1 ⟨rfl, f1⟩
  replace r0 := r0.keep f1 (fun h => h)
  replace f0 := f0.trans f1
  clear f1
  go_wp2_with fail
  refine (new_any _).mono ?_
  rintro e w2 ⟨b, rfl, hb, f2, t2⟩
  have nb : w.heap.size ≠ b := by have := r0.lt; omega
  replace hb := Nat.le_trans f0.size hb
  replace r0 := r0.keep f2 (fun h => h)
  replace f0 := f0.trans f2
  clear f2
  obtain ⟨c0, c1, c2, c3, c4⟩ := row5 r0
  go_wp2_with fail
  refine (right_any x _).mono ?_
  rintro e w3 ⟨rfl, f3⟩
  rw [hx]
  replace r0 := r0.keep f3 (fun h => h)
  replace t2 := t2.keep f3 (fun h => h)
  replace f0 := f0.trans f3
  clear f3 c0 c1 c2 c3 c4
  obtain ⟨c0, c1, c2, c3, c4⟩ := row5 r0
  go_wp2_with fail
  refine (rright_any x _).mono ?_
  rintro e w4 ⟨rfl, f4⟩
  rw [hx]
  replace r0 := r0.keep f4 (fun h => h)
  replace t2 := t2.keep f4 (fun h => h)
  replace f0 := f0.trans f4
  clear f4 c0 c1 c2 c3 c4
  obtain ⟨c0, c1, c2, c3, c4⟩ := row5 r0
  go_wp2_with fail
  refine (fill_any _ _ _ _ _ t2 i x).mono ?_
  rintro e w5 ⟨rfl, f5, t5⟩
  rw [hE]
  rw [hT] at t5
  replace r0 := r0.keep f5 nb
  replace f0 := f0.lone f5 hb
  clear f5 c0 c1 c2 c3 c4 t2
  obtain ⟨c0, c1, c2, c3, c4⟩ := row5 r0
  go_wp2_with fail
  refine (find_any _ _ _ _ _ x.v x.a x.p t5 (by omega) (by omega)).mono ?_
  rintro e w6 ⟨rfl, f6, t6⟩
  rw [hI]
  replace r0 := r0.keep f6 nb
  replace f0 := f0.lone f6 hb
  clear f6 c0 c1 c2 c3 c4 t5 t6
  obtain ⟨c0, c1, c2, c3, c4⟩ := row5 r0
  have v1 : ansF (fun _ => zl) (-1) = 0 := rfl
  have v2 : ansR (fun _ => zl) (-1) = 0 := rfl
  have v3 : ansB (-1) = false := rfl
  rw [v1, v2, v3]
  clear v1 v2 v3 hE hT hI
  have u1 : decide (0 ≤ i) = false := decide_eq_false (by omega)
  go_wp2_with fail
  go_ret
  exact ⟨rfl, f0⟩

set_option maxRecDepth 100000 in
set_option maxHeartbeats 4000000 in
theorem lines_high_true (i : Int) (x : Ln) (w : World) (hi : 8 ≤ i) (hx : rightL x = true) :
    Calls Try.prog 4 #[.agg #[.int .i64 x.v, .int .i64 x.a, .int .i64 x.p, .int .i64 x.f, .int .i64 x.r], .int .i64 i] w fun e w' => e = .returned (.bool true) ∧ Fr none' w w' := by
  have r0 := row_alloc w #[.int .i64 x.v, .int .i64 x.a, .int .i64 x.p, .int .i64 x.f, .int .i64 x.r] 28
  have f0 := (Fr.refl none' w).alloc (.cells #[.int .i64 x.v, .int .i64 x.a, .int .i64 x.p, .int .i64 x.f, .int .i64 x.r] 28)
  have hi' : inB i 0 7 = false := by
    cases h : inB i 0 7 with
    | false => rfl
    | true => have := inB_iff.mp h; omega
  have hE : fillE i x = 1 := by simp [fillE, hi']
  have hT : fillT (fun _ => zl) i x = fun _ => zl := by simp [fillT, hi']
  have hI := idx_zero x.v x.a x.p
  clear hi'
  go_enter Try.func4, Try.ntmps4
  go_wp2_with fail
  refine (awake_any _).mono ?_
  rintro e w1 ⟨rfl, f1⟩
  replace r0 := r0.keep f1 (fun h => h)
  replace f0 := f0.trans f1
  clear f1
  go_wp2_with fail
  refine (new_any _).mono ?_
  rintro e w2 ⟨b, rfl, hb, f2, t2⟩
  have nb : w.heap.size ≠ b := by have := r0.lt; omega
  replace hb := Nat.le_trans f0.size hb
  replace r0 := r0.keep f2 (fun h => h)
  replace f0 := f0.trans f2
  clear f2
  obtain ⟨c0, c1, c2, c3, c4⟩ := row5 r0
  go_wp2_with fail
  refine (right_any x _).mono ?_
  rintro e w3 ⟨rfl, f3⟩
  rw [hx]
  replace r0 := r0.keep f3 (fun h => h)
  replace t2 := t2.keep f3 (fun h => h)
  replace f0 := f0.trans f3
  clear f3 c0 c1 c2 c3 c4
  obtain ⟨c0, c1, c2, c3, c4⟩ := row5 r0
  go_wp2_with fail
  refine (rright_any x _).mono ?_
  rintro e w4 ⟨rfl, f4⟩
  rw [hx]
  replace r0 := r0.keep f4 (fun h => h)
  replace t2 := t2.keep f4 (fun h => h)
  replace f0 := f0.trans f4
  clear f4 c0 c1 c2 c3 c4
  obtain ⟨c0, c1, c2, c3, c4⟩ := row5 r0
  go_wp2_with fail
  refine (fill_any _ _ _ _ _ t2 i x).mono ?_
  rintro e w5 ⟨rfl, f5, t5⟩
  rw [hE]
  rw [hT] at t5
  replace r0 := r0.keep f5 nb
  replace f0 := f0.lone f5 hb
  clear f5 c0 c1 c2 c3 c4 t2
  obtain ⟨c0, c1, c2, c3, c4⟩ := row5 r0
  go_wp2_with fail
  refine (find_any _ _ _ _ _ x.v x.a x.p t5 (by omega) (by omega)).mono ?_
  rintro e w6 ⟨rfl, f6, t6⟩
  rw [hI]
  replace r0 := r0.keep f6 nb
  replace f0 := f0.lone f6 hb
  clear f6 c0 c1 c2 c3 c4 t5 t6
  obtain ⟨c0, c1, c2, c3, c4⟩ := row5 r0
  have v1 : ansF (fun _ => zl) (-1) = 0 := rfl
  have v2 : ansR (fun _ => zl) (-1) = 0 := rfl
  have v3 : ansB (-1) = false := rfl
  rw [v1, v2, v3]
  clear v1 v2 v3 hE hT hI
  have u1 : decide (0 ≤ i) = true := decide_eq_true (by omega)
  have u2 : decide (i < 8) = false := decide_eq_false (by omega)
  go_wp2_with fail
  go_ret
  exact ⟨rfl, f0⟩

set_option maxRecDepth 100000 in
set_option maxHeartbeats 4000000 in
theorem lines_high_false (i : Int) (x : Ln) (w : World) (hi : 8 ≤ i) (hx : rightL x = false) :
    Calls Try.prog 4 #[.agg #[.int .i64 x.v, .int .i64 x.a, .int .i64 x.p, .int .i64 x.f, .int .i64 x.r], .int .i64 i] w fun e w' => e = .returned (.bool true) ∧ Fr none' w w' := by
  have r0 := row_alloc w #[.int .i64 x.v, .int .i64 x.a, .int .i64 x.p, .int .i64 x.f, .int .i64 x.r] 28
  have f0 := (Fr.refl none' w).alloc (.cells #[.int .i64 x.v, .int .i64 x.a, .int .i64 x.p, .int .i64 x.f, .int .i64 x.r] 28)
  have hi' : inB i 0 7 = false := by
    cases h : inB i 0 7 with
    | false => rfl
    | true => have := inB_iff.mp h; omega
  have hE : fillE i x = 1 := by simp [fillE, hi']
  have hT : fillT (fun _ => zl) i x = fun _ => zl := by simp [fillT, hi']
  have hI := idx_zero x.v x.a x.p
  clear hi'
  go_enter Try.func4, Try.ntmps4
  go_wp2_with fail
  refine (awake_any _).mono ?_
  rintro e w1 ⟨rfl, f1⟩
  replace r0 := r0.keep f1 (fun h => h)
  replace f0 := f0.trans f1
  clear f1
  go_wp2_with fail
  refine (new_any _).mono ?_
  rintro e w2 ⟨b, rfl, hb, f2, t2⟩
  have nb : w.heap.size ≠ b := by have := r0.lt; omega
  replace hb := Nat.le_trans f0.size hb
  replace r0 := r0.keep f2 (fun h => h)
  replace f0 := f0.trans f2
  clear f2
  obtain ⟨c0, c1, c2, c3, c4⟩ := row5 r0
  go_wp2_with fail
  refine (right_any x _).mono ?_
  rintro e w3 ⟨rfl, f3⟩
  rw [hx]
  replace r0 := r0.keep f3 (fun h => h)
  replace t2 := t2.keep f3 (fun h => h)
  replace f0 := f0.trans f3
  clear f3 c0 c1 c2 c3 c4
  obtain ⟨c0, c1, c2, c3, c4⟩ := row5 r0
  go_wp2_with fail
  refine (rright_any x _).mono ?_
  rintro e w4 ⟨rfl, f4⟩
  rw [hx]
  replace r0 := r0.keep f4 (fun h => h)
  replace t2 := t2.keep f4 (fun h => h)
  replace f0 := f0.trans f4
  clear f4 c0 c1 c2 c3 c4
  obtain ⟨c0, c1, c2, c3, c4⟩ := row5 r0
  go_wp2_with fail
  refine (fill_any _ _ _ _ _ t2 i x).mono ?_
  rintro e w5 ⟨rfl, f5, t5⟩
  rw [hE]
  rw [hT] at t5
  replace r0 := r0.keep f5 nb
  replace f0 := f0.lone f5 hb
  clear f5 c0 c1 c2 c3 c4 t2
  obtain ⟨c0, c1, c2, c3, c4⟩ := row5 r0
  go_wp2_with fail
  refine (find_any _ _ _ _ _ x.v x.a x.p t5 (by omega) (by omega)).mono ?_
  rintro e w6 ⟨rfl, f6, t6⟩
  rw [hI]
  replace r0 := r0.keep f6 nb
  replace f0 := f0.lone f6 hb
  clear f6 c0 c1 c2 c3 c4 t5 t6
  obtain ⟨c0, c1, c2, c3, c4⟩ := row5 r0
  have v1 : ansF (fun _ => zl) (-1) = 0 := rfl
  have v2 : ansR (fun _ => zl) (-1) = 0 := rfl
  have v3 : ansB (-1) = false := rfl
  rw [v1, v2, v3]
  clear v1 v2 v3 hE hT hI
  have u1 : decide (0 ≤ i) = true := decide_eq_true (by omega)
  have u2 : decide (i < 8) = false := decide_eq_false (by omega)
  go_wp2_with fail
  go_ret
  exact ⟨rfl, f0⟩

theorem linesl_any (x : Ln) (i : Int) (w : World) :
    Calls Try.prog 4 #[.agg #[.int .i64 x.v, .int .i64 x.a, .int .i64 x.p, .int .i64 x.f, .int .i64 x.r], .int .i64 i] w fun e w' => e = .returned (.bool true) ∧ Below w.heap.size w w' := by
  have key : Calls Try.prog 4 #[.agg #[.int .i64 x.v, .int .i64 x.a, .int .i64 x.p, .int .i64 x.f, .int .i64 x.r], .int .i64 i] w fun e w' => e = .returned (.bool true) ∧ Fr none' w w' := by
    by_cases h0 : i < 0
    · cases hx : rightL x with
      | true => exact lines_low_true i x w h0 hx
      | false => exact lines_low_false i x w h0 hx
    · by_cases h8 : 8 ≤ i
      · cases hx : rightL x with
        | true => exact lines_high_true i x w h8 hx
        | false => exact lines_high_false i x w h8 hx
      · obtain ⟨k, rfl⟩ := Int.eq_ofNat_of_zero_le (show 0 ≤ i by omega)
        cases hx : rightL x with
        | true => exact lines_ok k x w (by omega) hx
        | false => exact lines_bad k x w (by omega) hx
  exact key.mono fun _ _ ⟨he, hf⟩ => ⟨he, hf.below (Nat.le_refl _) (fun _ h => h.elim)⟩

end Go.Proofs.Ytkmpmjjjklfalaa
