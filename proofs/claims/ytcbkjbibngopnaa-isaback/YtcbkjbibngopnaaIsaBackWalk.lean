/-
  The walk of the law IsaBack: for every input the law returns true and nothing old turns.
-/
import Derived.Test.YtcbkjbibngopnaaIsaInts
namespace Go.Proofs.Ytcbkjbibngopnaa
open Go.RowKit

theorem dec_word_back (o a b c i : Int) (w : World) (h : rightI o a b c i = true) :
    Calls Try.prog 13 #[.int .u32 (wordI o a b c i)] w fun e w' => e = .returned (.tuple #[.agg #[.int .i64 o, .int .i64 a, .int .i64 b, .int .i64 c, .int .i64 i], .int .i64 0]) ∧ Fr none' w w' := by
  have hb := word_bounds h
  obtain ⟨n, hn⟩ := Int.eq_ofNat_of_zero_le hb.1
  have := dec_any n w (by omega)
  rw [show ((n : Nat) : Int) = wordI o a b c i from hn.symm] at this
  obtain ⟨h1, h2, h3, h4, h5, h6⟩ := dec_back h
  rwa [h1, h2, h3, h4, h5, h6] at this

set_option maxHeartbeats 3200000 in
set_option maxRecDepth 100000 in
theorem back_no (o a b c i o' a' b' c' i' : Int) (w : World) (h : rightI o a b c i = false) :
    Calls Try.prog 5 #[.agg #[.int .i64 o, .int .i64 a, .int .i64 b, .int .i64 c, .int .i64 i], .agg #[.int .i64 o', .int .i64 a', .int .i64 b', .int .i64 c', .int .i64 i']] w fun e w' => e = .returned (.bool true) ∧ Fr none' w w' := by
  have f0 := ((Fr.refl none' w).alloc (.cells (ibox o a b c i) 23)).alloc (.cells (ibox o' a' b' c' i') 23)
  have r0 := (row_alloc w (ibox o a b c i) 23).alloc (.cells (ibox o' a' b' c' i') 23)
  have q0 := row_alloc (w.alloc (.cells (ibox o a b c i) 23)) (ibox o' a' b' c' i') 23
  rw [show (w.alloc (.cells (ibox o a b c i) 23)).heap.size = w.heap.size + 1 by simp] at q0
  unfold ibox at f0
  have A1 := enc_any o a b c i
  have A2 := enc_any o' a' b' c' i'
  have A3 := right_any o a b c i
  rw [h] at A3
  rw [show encW o a b c i = 0 by simp [encW, h], show encE o a b c i = 50 by simp [encE, h]] at A1
  clear h
  go_enter Try.func5, Try.ntmps5
  go_wp2_with fail
  refine (awake_any _).mono ?_
  rintro e x1 ⟨rfl, f1⟩
  replace r0 := r0.keep f1 (fun h => h)
  replace q0 := q0.keep f1 (fun h => h)
  replace f0 := f0.trans f1
  clear f1
  obtain ⟨r0c0, r0c1, r0c2, r0c3, r0c4⟩ := ibox_cells r0
  obtain ⟨q0c0, q0c1, q0c2, q0c3, q0c4⟩ := ibox_cells q0
  go_wp2_with fail
  refine (A1 _).mono ?_
  rintro e x2 ⟨rfl, f1⟩
  replace r0 := r0.keep f1 (fun h => h)
  replace q0 := q0.keep f1 (fun h => h)
  replace f0 := f0.trans f1
  clear f1
  clear r0c0 r0c1 r0c2 r0c3 r0c4
  obtain ⟨r0c0, r0c1, r0c2, r0c3, r0c4⟩ := ibox_cells r0
  clear q0c0 q0c1 q0c2 q0c3 q0c4
  obtain ⟨q0c0, q0c1, q0c2, q0c3, q0c4⟩ := ibox_cells q0
  go_wp2_with fail
  refine (A2 _).mono ?_
  rintro e x3 ⟨rfl, f1⟩
  replace r0 := r0.keep f1 (fun h => h)
  replace q0 := q0.keep f1 (fun h => h)
  replace f0 := f0.trans f1
  clear f1
  clear r0c0 r0c1 r0c2 r0c3 r0c4
  obtain ⟨r0c0, r0c1, r0c2, r0c3, r0c4⟩ := ibox_cells r0
  clear q0c0 q0c1 q0c2 q0c3 q0c4
  obtain ⟨q0c0, q0c1, q0c2, q0c3, q0c4⟩ := ibox_cells q0
  go_wp2_with fail
  refine (A3 _).mono ?_
  rintro e x4 ⟨rfl, f1⟩
  replace r0 := r0.keep f1 (fun h => h)
  replace q0 := q0.keep f1 (fun h => h)
  replace f0 := f0.trans f1
  clear f1
  go_wp2_with fail
  go_ret
  exact ⟨rfl, f0⟩

set_option maxHeartbeats 3200000 in
set_option maxRecDepth 100000 in
theorem back_wrong (o a b c i o' a' b' c' i' : Int) (w : World) (h : rightI o a b c i = true) (h' : rightI o' a' b' c' i' = false) :
    Calls Try.prog 5 #[.agg #[.int .i64 o, .int .i64 a, .int .i64 b, .int .i64 c, .int .i64 i], .agg #[.int .i64 o', .int .i64 a', .int .i64 b', .int .i64 c', .int .i64 i']] w fun e w' => e = .returned (.bool true) ∧ Fr none' w w' := by
  have f0 := ((Fr.refl none' w).alloc (.cells (ibox o a b c i) 23)).alloc (.cells (ibox o' a' b' c' i') 23)
  have r0 := (row_alloc w (ibox o a b c i) 23).alloc (.cells (ibox o' a' b' c' i') 23)
  have q0 := row_alloc (w.alloc (.cells (ibox o a b c i) 23)) (ibox o' a' b' c' i') 23
  rw [show (w.alloc (.cells (ibox o a b c i) 23)).heap.size = w.heap.size + 1 by simp] at q0
  unfold ibox at f0
  have A1 := enc_any o a b c i
  have A2 := enc_any o' a' b' c' i'
  have A3 := right_any o a b c i
  rw [h] at A3
  have A4 := fun w => dec_word_back o a b c i w h
  rw [show encW o a b c i = wordI o a b c i by simp [encW, h], show encE o a b c i = 0 by simp [encE, h]] at A1
  rw [show encW o' a' b' c' i' = 0 by simp [encW, h'], show encE o' a' b' c' i' = 50 by simp [encE, h']] at A2
  have hxi : ∀ w, (binOp .eql 23 (.agg #[.int .i64 o, .int .i64 a, .int .i64 b, .int .i64 c, .int .i64 i]) (.agg #[.int .i64 o, .int .i64 a, .int .i64 b, .int .i64 c, .int .i64 i])).run Try.prog w = .ok (.bool true) w := fun w => by rw [eq_instr]; simp
  generalize wordI o a b c i = wd at *
  clear h h'
  go_enter Try.func5, Try.ntmps5
  go_wp2_with fail
  refine (awake_any _).mono ?_
  rintro e x1 ⟨rfl, f1⟩
  replace r0 := r0.keep f1 (fun h => h)
  replace q0 := q0.keep f1 (fun h => h)
  replace f0 := f0.trans f1
  clear f1
  obtain ⟨r0c0, r0c1, r0c2, r0c3, r0c4⟩ := ibox_cells r0
  obtain ⟨q0c0, q0c1, q0c2, q0c3, q0c4⟩ := ibox_cells q0
  go_wp2_with fail
  refine (A1 _).mono ?_
  rintro e x2 ⟨rfl, f1⟩
  replace r0 := r0.keep f1 (fun h => h)
  replace q0 := q0.keep f1 (fun h => h)
  replace f0 := f0.trans f1
  clear f1
  clear r0c0 r0c1 r0c2 r0c3 r0c4
  obtain ⟨r0c0, r0c1, r0c2, r0c3, r0c4⟩ := ibox_cells r0
  clear q0c0 q0c1 q0c2 q0c3 q0c4
  obtain ⟨q0c0, q0c1, q0c2, q0c3, q0c4⟩ := ibox_cells q0
  go_wp2_with fail
  refine (A2 _).mono ?_
  rintro e x3 ⟨rfl, f1⟩
  replace r0 := r0.keep f1 (fun h => h)
  replace q0 := q0.keep f1 (fun h => h)
  replace f0 := f0.trans f1
  clear f1
  clear r0c0 r0c1 r0c2 r0c3 r0c4
  obtain ⟨r0c0, r0c1, r0c2, r0c3, r0c4⟩ := ibox_cells r0
  clear q0c0 q0c1 q0c2 q0c3 q0c4
  obtain ⟨q0c0, q0c1, q0c2, q0c3, q0c4⟩ := ibox_cells q0
  go_wp2_with fail
  refine (A3 _).mono ?_
  rintro e x4 ⟨rfl, f1⟩
  replace r0 := r0.keep f1 (fun h => h)
  replace q0 := q0.keep f1 (fun h => h)
  replace f0 := f0.trans f1
  clear f1
  clear r0c0 r0c1 r0c2 r0c3 r0c4
  obtain ⟨r0c0, r0c1, r0c2, r0c3, r0c4⟩ := ibox_cells r0
  clear q0c0 q0c1 q0c2 q0c3 q0c4
  obtain ⟨q0c0, q0c1, q0c2, q0c3, q0c4⟩ := ibox_cells q0
  go_wp2_with fail
  refine (A4 _).mono ?_
  rintro e x5 ⟨rfl, f1⟩
  replace r0 := r0.keep f1 (fun h => h)
  replace q0 := q0.keep f1 (fun h => h)
  replace f0 := f0.trans f1
  clear f1
  replace r0 := r0.alloc (.cells (ibox o a b c i) 23)
  replace q0 := q0.alloc (.cells (ibox o a b c i) 23)
  have s0 := row_alloc x5 (ibox o a b c i) 23
  replace f0 := f0.alloc (.cells (ibox o a b c i) 23)
  unfold ibox at f0
  clear r0c0 r0c1 r0c2 r0c3 r0c4
  obtain ⟨r0c0, r0c1, r0c2, r0c3, r0c4⟩ := ibox_cells r0
  clear q0c0 q0c1 q0c2 q0c3 q0c4
  obtain ⟨q0c0, q0c1, q0c2, q0c3, q0c4⟩ := ibox_cells q0
  obtain ⟨s0c0, s0c1, s0c2, s0c3, s0c4⟩ := ibox_cells s0
  unfold ibox at r0c0 r0c1 r0c2 r0c3 r0c4 q0c0 q0c1 q0c2 q0c3 q0c4 s0c0 s0c1 s0c2 s0c3 s0c4
  go_wp2_with fail
  go_ret
  exact ⟨rfl, f0⟩

set_option maxHeartbeats 3200000 in
set_option maxRecDepth 100000 in
theorem back_unlike (o a b c i o' a' b' c' i' : Int) (w : World) (h : rightI o a b c i = true) (h' : rightI o' a' b' c' i' = true) (hn : (o == o' && (a == a' && (b == b' && (c == c' && i == i')))) = false) :
    Calls Try.prog 5 #[.agg #[.int .i64 o, .int .i64 a, .int .i64 b, .int .i64 c, .int .i64 i], .agg #[.int .i64 o', .int .i64 a', .int .i64 b', .int .i64 c', .int .i64 i']] w fun e w' => e = .returned (.bool true) ∧ Fr none' w w' := by
  have f0 := ((Fr.refl none' w).alloc (.cells (ibox o a b c i) 23)).alloc (.cells (ibox o' a' b' c' i') 23)
  have r0 := (row_alloc w (ibox o a b c i) 23).alloc (.cells (ibox o' a' b' c' i') 23)
  have q0 := row_alloc (w.alloc (.cells (ibox o a b c i) 23)) (ibox o' a' b' c' i') 23
  rw [show (w.alloc (.cells (ibox o a b c i) 23)).heap.size = w.heap.size + 1 by simp] at q0
  unfold ibox at f0
  have A1 := enc_any o a b c i
  have A2 := enc_any o' a' b' c' i'
  have A3 := right_any o a b c i
  rw [h] at A3
  have A4 := fun w => dec_word_back o a b c i w h
  rw [show encW o a b c i = wordI o a b c i by simp [encW, h], show encE o a b c i = 0 by simp [encE, h]] at A1
  rw [show encW o' a' b' c' i' = wordI o' a' b' c' i' by simp [encW, h'], show encE o' a' b' c' i' = 0 by simp [encE, h']] at A2
  have hij : ∀ w, (binOp .eql 23 (.agg #[.int .i64 o, .int .i64 a, .int .i64 b, .int .i64 c, .int .i64 i]) (.agg #[.int .i64 o', .int .i64 a', .int .i64 b', .int .i64 c', .int .i64 i'])).run Try.prog w = .ok (.bool false) w := fun w => by rw [eq_instr, hn]
  have hww : (wordI o a b c i == wordI o' a' b' c' i') = false := by
    cases e : (wordI o a b c i == wordI o' a' b' c' i')
    · rfl
    · obtain ⟨e0, e1, e2, e3, e4⟩ := word_inj h h' (by simpa using e)
      rw [e0, e1, e2, e3, e4] at hn
      simp at hn
  generalize wordI o' a' b' c' i' = wd' at *
  clear hn
  have hxi : ∀ w, (binOp .eql 23 (.agg #[.int .i64 o, .int .i64 a, .int .i64 b, .int .i64 c, .int .i64 i]) (.agg #[.int .i64 o, .int .i64 a, .int .i64 b, .int .i64 c, .int .i64 i])).run Try.prog w = .ok (.bool true) w := fun w => by rw [eq_instr]; simp
  generalize wordI o a b c i = wd at *
  clear h h'
  go_enter Try.func5, Try.ntmps5
  go_wp2_with fail
  refine (awake_any _).mono ?_
  rintro e x1 ⟨rfl, f1⟩
  replace r0 := r0.keep f1 (fun h => h)
  replace q0 := q0.keep f1 (fun h => h)
  replace f0 := f0.trans f1
  clear f1
  obtain ⟨r0c0, r0c1, r0c2, r0c3, r0c4⟩ := ibox_cells r0
  obtain ⟨q0c0, q0c1, q0c2, q0c3, q0c4⟩ := ibox_cells q0
  go_wp2_with fail
  refine (A1 _).mono ?_
  rintro e x2 ⟨rfl, f1⟩
  replace r0 := r0.keep f1 (fun h => h)
  replace q0 := q0.keep f1 (fun h => h)
  replace f0 := f0.trans f1
  clear f1
  clear r0c0 r0c1 r0c2 r0c3 r0c4
  obtain ⟨r0c0, r0c1, r0c2, r0c3, r0c4⟩ := ibox_cells r0
  clear q0c0 q0c1 q0c2 q0c3 q0c4
  obtain ⟨q0c0, q0c1, q0c2, q0c3, q0c4⟩ := ibox_cells q0
  go_wp2_with fail
  refine (A2 _).mono ?_
  rintro e x3 ⟨rfl, f1⟩
  replace r0 := r0.keep f1 (fun h => h)
  replace q0 := q0.keep f1 (fun h => h)
  replace f0 := f0.trans f1
  clear f1
  clear r0c0 r0c1 r0c2 r0c3 r0c4
  obtain ⟨r0c0, r0c1, r0c2, r0c3, r0c4⟩ := ibox_cells r0
  clear q0c0 q0c1 q0c2 q0c3 q0c4
  obtain ⟨q0c0, q0c1, q0c2, q0c3, q0c4⟩ := ibox_cells q0
  go_wp2_with fail
  refine (A3 _).mono ?_
  rintro e x4 ⟨rfl, f1⟩
  replace r0 := r0.keep f1 (fun h => h)
  replace q0 := q0.keep f1 (fun h => h)
  replace f0 := f0.trans f1
  clear f1
  clear r0c0 r0c1 r0c2 r0c3 r0c4
  obtain ⟨r0c0, r0c1, r0c2, r0c3, r0c4⟩ := ibox_cells r0
  clear q0c0 q0c1 q0c2 q0c3 q0c4
  obtain ⟨q0c0, q0c1, q0c2, q0c3, q0c4⟩ := ibox_cells q0
  go_wp2_with fail
  refine (A4 _).mono ?_
  rintro e x5 ⟨rfl, f1⟩
  replace r0 := r0.keep f1 (fun h => h)
  replace q0 := q0.keep f1 (fun h => h)
  replace f0 := f0.trans f1
  clear f1
  replace r0 := r0.alloc (.cells (ibox o a b c i) 23)
  replace q0 := q0.alloc (.cells (ibox o a b c i) 23)
  have s0 := row_alloc x5 (ibox o a b c i) 23
  replace f0 := f0.alloc (.cells (ibox o a b c i) 23)
  unfold ibox at f0
  clear r0c0 r0c1 r0c2 r0c3 r0c4
  obtain ⟨r0c0, r0c1, r0c2, r0c3, r0c4⟩ := ibox_cells r0
  clear q0c0 q0c1 q0c2 q0c3 q0c4
  obtain ⟨q0c0, q0c1, q0c2, q0c3, q0c4⟩ := ibox_cells q0
  obtain ⟨s0c0, s0c1, s0c2, s0c3, s0c4⟩ := ibox_cells s0
  unfold ibox at r0c0 r0c1 r0c2 r0c3 r0c4 q0c0 q0c1 q0c2 q0c3 q0c4 s0c0 s0c1 s0c2 s0c3 s0c4
  go_wp2_with fail
  go_ret
  exact ⟨rfl, f0⟩

set_option maxHeartbeats 3200000 in
set_option maxRecDepth 100000 in
theorem back_same (o a b c i : Int) (w : World) (h : rightI o a b c i = true) :
    Calls Try.prog 5 #[.agg #[.int .i64 o, .int .i64 a, .int .i64 b, .int .i64 c, .int .i64 i], .agg #[.int .i64 o, .int .i64 a, .int .i64 b, .int .i64 c, .int .i64 i]] w fun e w' => e = .returned (.bool true) ∧ Fr none' w w' := by
  have f0 := ((Fr.refl none' w).alloc (.cells (ibox o a b c i) 23)).alloc (.cells (ibox o a b c i) 23)
  have r0 := (row_alloc w (ibox o a b c i) 23).alloc (.cells (ibox o a b c i) 23)
  have q0 := row_alloc (w.alloc (.cells (ibox o a b c i) 23)) (ibox o a b c i) 23
  rw [show (w.alloc (.cells (ibox o a b c i) 23)).heap.size = w.heap.size + 1 by simp] at q0
  unfold ibox at f0
  have A1 := enc_any o a b c i
  have A3 := right_any o a b c i
  rw [h] at A3
  have A4 := fun w => dec_word_back o a b c i w h
  rw [show encW o a b c i = wordI o a b c i by simp [encW, h], show encE o a b c i = 0 by simp [encE, h]] at A1
  have hxi : ∀ w, (binOp .eql 23 (.agg #[.int .i64 o, .int .i64 a, .int .i64 b, .int .i64 c, .int .i64 i]) (.agg #[.int .i64 o, .int .i64 a, .int .i64 b, .int .i64 c, .int .i64 i])).run Try.prog w = .ok (.bool true) w := fun w => by rw [eq_instr]; simp
  generalize wordI o a b c i = wd at *
  have tw : (wd == wd) = true := by simp
  clear h
  go_enter Try.func5, Try.ntmps5
  go_wp2_with fail
  refine (awake_any _).mono ?_
  rintro e x1 ⟨rfl, f1⟩
  replace r0 := r0.keep f1 (fun h => h)
  replace q0 := q0.keep f1 (fun h => h)
  replace f0 := f0.trans f1
  clear f1
  obtain ⟨r0c0, r0c1, r0c2, r0c3, r0c4⟩ := ibox_cells r0
  obtain ⟨q0c0, q0c1, q0c2, q0c3, q0c4⟩ := ibox_cells q0
  go_wp2_with fail
  refine (A1 _).mono ?_
  rintro e x2 ⟨rfl, f1⟩
  replace r0 := r0.keep f1 (fun h => h)
  replace q0 := q0.keep f1 (fun h => h)
  replace f0 := f0.trans f1
  clear f1
  clear r0c0 r0c1 r0c2 r0c3 r0c4
  obtain ⟨r0c0, r0c1, r0c2, r0c3, r0c4⟩ := ibox_cells r0
  clear q0c0 q0c1 q0c2 q0c3 q0c4
  obtain ⟨q0c0, q0c1, q0c2, q0c3, q0c4⟩ := ibox_cells q0
  go_wp2_with fail
  refine (A1 _).mono ?_
  rintro e x3 ⟨rfl, f1⟩
  replace r0 := r0.keep f1 (fun h => h)
  replace q0 := q0.keep f1 (fun h => h)
  replace f0 := f0.trans f1
  clear f1
  clear r0c0 r0c1 r0c2 r0c3 r0c4
  obtain ⟨r0c0, r0c1, r0c2, r0c3, r0c4⟩ := ibox_cells r0
  clear q0c0 q0c1 q0c2 q0c3 q0c4
  obtain ⟨q0c0, q0c1, q0c2, q0c3, q0c4⟩ := ibox_cells q0
  go_wp2_with fail
  refine (A3 _).mono ?_
  rintro e x4 ⟨rfl, f1⟩
  replace r0 := r0.keep f1 (fun h => h)
  replace q0 := q0.keep f1 (fun h => h)
  replace f0 := f0.trans f1
  clear f1
  clear r0c0 r0c1 r0c2 r0c3 r0c4
  obtain ⟨r0c0, r0c1, r0c2, r0c3, r0c4⟩ := ibox_cells r0
  clear q0c0 q0c1 q0c2 q0c3 q0c4
  obtain ⟨q0c0, q0c1, q0c2, q0c3, q0c4⟩ := ibox_cells q0
  go_wp2_with fail
  refine (A4 _).mono ?_
  rintro e x5 ⟨rfl, f1⟩
  replace r0 := r0.keep f1 (fun h => h)
  replace q0 := q0.keep f1 (fun h => h)
  replace f0 := f0.trans f1
  clear f1
  replace r0 := r0.alloc (.cells (ibox o a b c i) 23)
  replace q0 := q0.alloc (.cells (ibox o a b c i) 23)
  have s0 := row_alloc x5 (ibox o a b c i) 23
  replace f0 := f0.alloc (.cells (ibox o a b c i) 23)
  unfold ibox at f0
  clear r0c0 r0c1 r0c2 r0c3 r0c4
  obtain ⟨r0c0, r0c1, r0c2, r0c3, r0c4⟩ := ibox_cells r0
  clear q0c0 q0c1 q0c2 q0c3 q0c4
  obtain ⟨q0c0, q0c1, q0c2, q0c3, q0c4⟩ := ibox_cells q0
  obtain ⟨s0c0, s0c1, s0c2, s0c3, s0c4⟩ := ibox_cells s0
  unfold ibox at r0c0 r0c1 r0c2 r0c3 r0c4 q0c0 q0c1 q0c2 q0c3 q0c4 s0c0 s0c1 s0c2 s0c3 s0c4
  go_wp2_with fail
  go_ret
  exact ⟨rfl, f0⟩

theorem back_fr (o a b c i o' a' b' c' i' : Int) (w : World) :
    Calls Try.prog 5 #[.agg #[.int .i64 o, .int .i64 a, .int .i64 b, .int .i64 c, .int .i64 i], .agg #[.int .i64 o', .int .i64 a', .int .i64 b', .int .i64 c', .int .i64 i']] w fun e w' => e = .returned (.bool true) ∧ Fr none' w w' := by
  cases h : rightI o a b c i
  · exact back_no o a b c i o' a' b' c' i' w h
  cases h' : rightI o' a' b' c' i'
  · exact back_wrong o a b c i o' a' b' c' i' w h h'
  cases hn : (o == o' && (a == a' && (b == b' && (c == c' && i == i'))))
  · exact back_unlike o a b c i o' a' b' c' i' w h h' hn
  · simp only [Bool.and_eq_true, beq_iff_eq] at hn
    obtain ⟨rfl, rfl, rfl, rfl, rfl⟩ := hn
    exact back_same o a b c i w h

theorem back_any (o a b c i o' a' b' c' i' : Int) (w : World) :
    Calls Try.prog 5 #[.agg #[.int .i64 o, .int .i64 a, .int .i64 b, .int .i64 c, .int .i64 i], .agg #[.int .i64 o', .int .i64 a', .int .i64 b', .int .i64 c', .int .i64 i']] w fun e w' => e = .returned (.bool true) ∧ Below w.heap.size w w' :=
  (back_fr o a b c i o' a' b' c' i' w).mono fun _ _ ⟨he, hf⟩ => ⟨he, hf.below (Nat.le_refl _) (fun _ h => h.elim)⟩

end Go.Proofs.Ytcbkjbibngopnaa
