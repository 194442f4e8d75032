/-
  The walk of the law PteBack: an entry is read from its word as it was, and no two have one word: for every two entries the law returns true and nothing old turns.
-/
import Derived.Test.YtefjincghkdeiaaPteAwake
namespace Go.Proofs.Ytefjincghkdeiaa
open Go.RowKit

theorem dec_word_back (v l : Bool) (r f : Int) (w : World) (h : rightE v l r f = true) :
    Calls Try.prog 14 #[.int .u16 (wordE v l r f)] w fun e w' => e = .returned (.tuple #[.agg #[.bool v, .bool l, .int .i64 r, .int .i64 f], .int .i64 0]) ∧ Fr none' w w' := by
  have hb := word_bounds h
  have := dec_int (wordE v l r f) w hb.1 hb.2
  obtain ⟨h1, h2, h3, h4, h5⟩ := dec_back h
  rwa [h1, h2, h3, h4, h5] at this

theorem right_yes (v l : Bool) (r f : Int) (w : World) (h : rightE v l r f = true) :
    Calls Try.prog 10 #[.agg #[.bool v, .bool l, .int .i64 r, .int .i64 f]] w fun e w' => e = .returned (.bool true) ∧ Fr none' w w' := by
  have := right_any v l r f w
  rwa [h] at this
theorem right_no (v l : Bool) (r f : Int) (w : World) (h : rightE v l r f = false) :
    Calls Try.prog 10 #[.agg #[.bool v, .bool l, .int .i64 r, .int .i64 f]] w fun e w' => e = .returned (.bool false) ∧ Fr none' w w' := by
  have := right_any v l r f w
  rwa [h] at this

set_option maxHeartbeats 1600000 in
theorem back_no (v l v' l' : Bool) (r f r' f' : Int) (w : World) (h : rightE v l r f = false) :
    Calls Try.prog 4 #[.agg #[.bool v, .bool l, .int .i64 r, .int .i64 f], .agg #[.bool v', .bool l', .int .i64 r', .int .i64 f']] w fun e w' => e = .returned (.bool true) ∧ Fr none' w w' := by
  have f0 := ((Fr.refl none' w).alloc (.cells (ebox v l r f) 23)).alloc (.cells (ebox v' l' r' f') 23)
  have r0 := (row_alloc w (ebox v l r f) 23).alloc (.cells (ebox v' l' r' f') 23)
  have q0 := row_alloc (w.alloc (.cells (ebox v l r f) 23)) (ebox v' l' r' f') 23
  rw [show (w.alloc (.cells (ebox v l r f) 23)).heap.size = w.heap.size + 1 by simp] at q0
  unfold ebox at f0
  go_enter Try.func4, Try.ntmps4
  go_wp2_with fail
  refine (awake_any _).mono ?_
  rintro e w1 ⟨rfl, f1⟩
  replace r0 := r0.keep f1 (fun h => h)
  replace q0 := q0.keep f1 (fun h => h)
  replace f0 := f0.trans f1
  clear f1
  obtain ⟨c0, c1, c2, c3⟩ := ebox_cells r0
  obtain ⟨d0, d1, d2, d3⟩ := ebox_cells q0
  go_wp2_with fail
  refine (enc_bad _ _ _ _ _ h).mono ?_
  rintro e w2 ⟨rfl, f1⟩
  replace r0 := r0.keep f1 (fun h => h)
  replace q0 := q0.keep f1 (fun h => h)
  replace f0 := f0.trans f1
  clear f1 c0 c1 c2 c3 d0 d1 d2 d3
  obtain ⟨c0, c1, c2, c3⟩ := ebox_cells r0
  obtain ⟨d0, d1, d2, d3⟩ := ebox_cells q0
  go_wp2_with fail
  refine (enc_any _ _ _ _ _).mono ?_
  rintro e w3 ⟨rfl, f1⟩
  replace r0 := r0.keep f1 (fun h => h)
  replace q0 := q0.keep f1 (fun h => h)
  replace f0 := f0.trans f1
  clear f1 c0 c1 c2 c3 d0 d1 d2 d3
  obtain ⟨c0, c1, c2, c3⟩ := ebox_cells r0
  obtain ⟨d0, d1, d2, d3⟩ := ebox_cells q0
  go_wp2_with fail
  refine (right_no _ _ _ _ _ h).mono ?_
  rintro e w4 ⟨rfl, f1⟩
  replace r0 := r0.keep f1 (fun h => h)
  replace q0 := q0.keep f1 (fun h => h)
  replace f0 := f0.trans f1
  clear f1 c0 c1 c2 c3 d0 d1 d2 d3
  obtain ⟨c0, c1, c2, c3⟩ := ebox_cells r0
  obtain ⟨d0, d1, d2, d3⟩ := ebox_cells q0
  go_wp2_with fail
  go_ret
  exact ⟨rfl, f0⟩

set_option maxHeartbeats 1600000 in
theorem back_none_wrong (v' l' : Bool) (r' f' : Int) (w : World) (h : rightE false false 0 0 = true) (h' : rightE v' l' r' f' = false) :
    Calls Try.prog 4 #[.agg #[.bool false, .bool false, .int .i64 0, .int .i64 0], .agg #[.bool v', .bool l', .int .i64 r', .int .i64 f']] w fun e w' => e = .returned (.bool true) ∧ Fr none' w w' := by
  have f0 := ((Fr.refl none' w).alloc (.cells (ebox false false 0 0) 23)).alloc (.cells (ebox v' l' r' f') 23)
  have r0 := (row_alloc w (ebox false false 0 0) 23).alloc (.cells (ebox v' l' r' f') 23)
  have q0 := row_alloc (w.alloc (.cells (ebox false false 0 0) 23)) (ebox v' l' r' f') 23
  rw [show (w.alloc (.cells (ebox false false 0 0) 23)).heap.size = w.heap.size + 1 by simp] at q0
  unfold ebox at f0
  go_enter Try.func4, Try.ntmps4
  go_wp2_with fail
  refine (awake_any _).mono ?_
  rintro e w1 ⟨rfl, f1⟩
  replace r0 := r0.keep f1 (fun h => h)
  replace q0 := q0.keep f1 (fun h => h)
  replace f0 := f0.trans f1
  clear f1
  obtain ⟨c0, c1, c2, c3⟩ := ebox_cells r0
  obtain ⟨d0, d1, d2, d3⟩ := ebox_cells q0
  go_wp2_with fail
  refine (enc_ok _ _ _ _ _ h).mono ?_
  rintro e w2 ⟨rfl, f1⟩
  replace r0 := r0.keep f1 (fun h => h)
  replace q0 := q0.keep f1 (fun h => h)
  replace f0 := f0.trans f1
  clear f1 c0 c1 c2 c3 d0 d1 d2 d3
  obtain ⟨c0, c1, c2, c3⟩ := ebox_cells r0
  obtain ⟨d0, d1, d2, d3⟩ := ebox_cells q0
  go_wp2_with fail
  refine (enc_bad _ _ _ _ _ h').mono ?_
  rintro e w3 ⟨rfl, f1⟩
  replace r0 := r0.keep f1 (fun h => h)
  replace q0 := q0.keep f1 (fun h => h)
  replace f0 := f0.trans f1
  clear f1 c0 c1 c2 c3 d0 d1 d2 d3
  obtain ⟨c0, c1, c2, c3⟩ := ebox_cells r0
  obtain ⟨d0, d1, d2, d3⟩ := ebox_cells q0
  go_wp2_with fail
  refine (right_yes _ _ _ _ _ h).mono ?_
  rintro e w4 ⟨rfl, f1⟩
  replace r0 := r0.keep f1 (fun h => h)
  replace q0 := q0.keep f1 (fun h => h)
  replace f0 := f0.trans f1
  clear f1 c0 c1 c2 c3 d0 d1 d2 d3
  obtain ⟨c0, c1, c2, c3⟩ := ebox_cells r0
  obtain ⟨d0, d1, d2, d3⟩ := ebox_cells q0
  go_wp2_with fail
  refine (dec_word_back _ _ _ _ _ h).mono ?_
  rintro e w5 ⟨rfl, f1⟩
  replace r0 := (r0.keep f1 (fun h => h)).alloc (.cells (ebox false false 0 0) 23)
  replace q0 := (q0.keep f1 (fun h => h)).alloc (.cells (ebox false false 0 0) 23)
  replace f0 := (f0.trans f1).alloc (.cells (ebox false false 0 0) 23)
  unfold ebox at f0
  clear f1 c0 c1 c2 c3 d0 d1 d2 d3
  obtain ⟨c0, c1, c2, c3⟩ := ebox_cells r0
  obtain ⟨d0, d1, d2, d3⟩ := ebox_cells q0
  unfold ebox at c0 c1 c2 c3 d0 d1 d2 d3
  go_wp2_with fail
  go_ret
  exact ⟨rfl, f0⟩

set_option maxHeartbeats 1600000 in
theorem back_none_none (w : World) (h : rightE false false 0 0 = true) :
    Calls Try.prog 4 #[.agg #[.bool false, .bool false, .int .i64 0, .int .i64 0], .agg #[.bool false, .bool false, .int .i64 0, .int .i64 0]] w fun e w' => e = .returned (.bool true) ∧ Fr none' w w' := by
  have f0 := ((Fr.refl none' w).alloc (.cells (ebox false false 0 0) 23)).alloc (.cells (ebox false false 0 0) 23)
  have r0 := (row_alloc w (ebox false false 0 0) 23).alloc (.cells (ebox false false 0 0) 23)
  have q0 := row_alloc (w.alloc (.cells (ebox false false 0 0) 23)) (ebox false false 0 0) 23
  rw [show (w.alloc (.cells (ebox false false 0 0) 23)).heap.size = w.heap.size + 1 by simp] at q0
  unfold ebox at f0
  have t1 : (wordE false false 0 0 == wordE false false 0 0) = true := by simp
  go_enter Try.func4, Try.ntmps4
  go_wp2_with fail
  refine (awake_any _).mono ?_
  rintro e w1 ⟨rfl, f1⟩
  replace r0 := r0.keep f1 (fun h => h)
  replace q0 := q0.keep f1 (fun h => h)
  replace f0 := f0.trans f1
  clear f1
  obtain ⟨c0, c1, c2, c3⟩ := ebox_cells r0
  obtain ⟨d0, d1, d2, d3⟩ := ebox_cells q0
  go_wp2_with fail
  refine (enc_ok _ _ _ _ _ h).mono ?_
  rintro e w2 ⟨rfl, f1⟩
  replace r0 := r0.keep f1 (fun h => h)
  replace q0 := q0.keep f1 (fun h => h)
  replace f0 := f0.trans f1
  clear f1 c0 c1 c2 c3 d0 d1 d2 d3
  obtain ⟨c0, c1, c2, c3⟩ := ebox_cells r0
  obtain ⟨d0, d1, d2, d3⟩ := ebox_cells q0
  go_wp2_with fail
  refine (enc_ok _ _ _ _ _ h).mono ?_
  rintro e w3 ⟨rfl, f1⟩
  replace r0 := r0.keep f1 (fun h => h)
  replace q0 := q0.keep f1 (fun h => h)
  replace f0 := f0.trans f1
  clear f1 c0 c1 c2 c3 d0 d1 d2 d3
  obtain ⟨c0, c1, c2, c3⟩ := ebox_cells r0
  obtain ⟨d0, d1, d2, d3⟩ := ebox_cells q0
  go_wp2_with fail
  refine (right_yes _ _ _ _ _ h).mono ?_
  rintro e w4 ⟨rfl, f1⟩
  replace r0 := r0.keep f1 (fun h => h)
  replace q0 := q0.keep f1 (fun h => h)
  replace f0 := f0.trans f1
  clear f1 c0 c1 c2 c3 d0 d1 d2 d3
  obtain ⟨c0, c1, c2, c3⟩ := ebox_cells r0
  obtain ⟨d0, d1, d2, d3⟩ := ebox_cells q0
  go_wp2_with fail
  refine (dec_word_back _ _ _ _ _ h).mono ?_
  rintro e w5 ⟨rfl, f1⟩
  replace r0 := (r0.keep f1 (fun h => h)).alloc (.cells (ebox false false 0 0) 23)
  replace q0 := (q0.keep f1 (fun h => h)).alloc (.cells (ebox false false 0 0) 23)
  replace f0 := (f0.trans f1).alloc (.cells (ebox false false 0 0) 23)
  unfold ebox at f0
  clear f1 c0 c1 c2 c3 d0 d1 d2 d3
  obtain ⟨c0, c1, c2, c3⟩ := ebox_cells r0
  obtain ⟨d0, d1, d2, d3⟩ := ebox_cells q0
  unfold ebox at c0 c1 c2 c3 d0 d1 d2 d3
  go_wp2_with fail
  go_ret
  exact ⟨rfl, f0⟩

set_option maxHeartbeats 1600000 in
theorem back_none_node (f' : Int) (w : World) (h : rightE false false 0 0 = true) (h' : rightE true false 0 f' = true) :
    Calls Try.prog 4 #[.agg #[.bool false, .bool false, .int .i64 0, .int .i64 0], .agg #[.bool true, .bool false, .int .i64 0, .int .i64 f']] w fun e w' => e = .returned (.bool true) ∧ Fr none' w w' := by
  have f0 := ((Fr.refl none' w).alloc (.cells (ebox false false 0 0) 23)).alloc (.cells (ebox true false 0 f') 23)
  have r0 := (row_alloc w (ebox false false 0 0) 23).alloc (.cells (ebox true false 0 f') 23)
  have q0 := row_alloc (w.alloc (.cells (ebox false false 0 0) 23)) (ebox true false 0 f') 23
  rw [show (w.alloc (.cells (ebox false false 0 0) 23)).heap.size = w.heap.size + 1 by simp] at q0
  unfold ebox at f0
  have t1 : (wordE false false 0 0 == wordE true false 0 f') = false := by simp; intro e; have := word_inj h h' e; simp at this
  go_enter Try.func4, Try.ntmps4
  go_wp2_with fail
  refine (awake_any _).mono ?_
  rintro e w1 ⟨rfl, f1⟩
  replace r0 := r0.keep f1 (fun h => h)
  replace q0 := q0.keep f1 (fun h => h)
  replace f0 := f0.trans f1
  clear f1
  obtain ⟨c0, c1, c2, c3⟩ := ebox_cells r0
  obtain ⟨d0, d1, d2, d3⟩ := ebox_cells q0
  go_wp2_with fail
  refine (enc_ok _ _ _ _ _ h).mono ?_
  rintro e w2 ⟨rfl, f1⟩
  replace r0 := r0.keep f1 (fun h => h)
  replace q0 := q0.keep f1 (fun h => h)
  replace f0 := f0.trans f1
  clear f1 c0 c1 c2 c3 d0 d1 d2 d3
  obtain ⟨c0, c1, c2, c3⟩ := ebox_cells r0
  obtain ⟨d0, d1, d2, d3⟩ := ebox_cells q0
  go_wp2_with fail
  refine (enc_ok _ _ _ _ _ h').mono ?_
  rintro e w3 ⟨rfl, f1⟩
  replace r0 := r0.keep f1 (fun h => h)
  replace q0 := q0.keep f1 (fun h => h)
  replace f0 := f0.trans f1
  clear f1 c0 c1 c2 c3 d0 d1 d2 d3
  obtain ⟨c0, c1, c2, c3⟩ := ebox_cells r0
  obtain ⟨d0, d1, d2, d3⟩ := ebox_cells q0
  go_wp2_with fail
  refine (right_yes _ _ _ _ _ h).mono ?_
  rintro e w4 ⟨rfl, f1⟩
  replace r0 := r0.keep f1 (fun h => h)
  replace q0 := q0.keep f1 (fun h => h)
  replace f0 := f0.trans f1
  clear f1 c0 c1 c2 c3 d0 d1 d2 d3
  obtain ⟨c0, c1, c2, c3⟩ := ebox_cells r0
  obtain ⟨d0, d1, d2, d3⟩ := ebox_cells q0
  go_wp2_with fail
  refine (dec_word_back _ _ _ _ _ h).mono ?_
  rintro e w5 ⟨rfl, f1⟩
  replace r0 := (r0.keep f1 (fun h => h)).alloc (.cells (ebox false false 0 0) 23)
  replace q0 := (q0.keep f1 (fun h => h)).alloc (.cells (ebox false false 0 0) 23)
  replace f0 := (f0.trans f1).alloc (.cells (ebox false false 0 0) 23)
  unfold ebox at f0
  clear f1 c0 c1 c2 c3 d0 d1 d2 d3
  obtain ⟨c0, c1, c2, c3⟩ := ebox_cells r0
  obtain ⟨d0, d1, d2, d3⟩ := ebox_cells q0
  unfold ebox at c0 c1 c2 c3 d0 d1 d2 d3
  go_wp2_with fail
  go_ret
  exact ⟨rfl, f0⟩

set_option maxHeartbeats 1600000 in
theorem back_none_leaf (r' f' : Int) (w : World) (h : rightE false false 0 0 = true) (h' : rightE true true r' f' = true) :
    Calls Try.prog 4 #[.agg #[.bool false, .bool false, .int .i64 0, .int .i64 0], .agg #[.bool true, .bool true, .int .i64 r', .int .i64 f']] w fun e w' => e = .returned (.bool true) ∧ Fr none' w w' := by
  have f0 := ((Fr.refl none' w).alloc (.cells (ebox false false 0 0) 23)).alloc (.cells (ebox true true r' f') 23)
  have r0 := (row_alloc w (ebox false false 0 0) 23).alloc (.cells (ebox true true r' f') 23)
  have q0 := row_alloc (w.alloc (.cells (ebox false false 0 0) 23)) (ebox true true r' f') 23
  rw [show (w.alloc (.cells (ebox false false 0 0) 23)).heap.size = w.heap.size + 1 by simp] at q0
  unfold ebox at f0
  have t1 : (wordE false false 0 0 == wordE true true r' f') = false := by simp; intro e; have := word_inj h h' e; simp at this
  go_enter Try.func4, Try.ntmps4
  go_wp2_with fail
  refine (awake_any _).mono ?_
  rintro e w1 ⟨rfl, f1⟩
  replace r0 := r0.keep f1 (fun h => h)
  replace q0 := q0.keep f1 (fun h => h)
  replace f0 := f0.trans f1
  clear f1
  obtain ⟨c0, c1, c2, c3⟩ := ebox_cells r0
  obtain ⟨d0, d1, d2, d3⟩ := ebox_cells q0
  go_wp2_with fail
  refine (enc_ok _ _ _ _ _ h).mono ?_
  rintro e w2 ⟨rfl, f1⟩
  replace r0 := r0.keep f1 (fun h => h)
  replace q0 := q0.keep f1 (fun h => h)
  replace f0 := f0.trans f1
  clear f1 c0 c1 c2 c3 d0 d1 d2 d3
  obtain ⟨c0, c1, c2, c3⟩ := ebox_cells r0
  obtain ⟨d0, d1, d2, d3⟩ := ebox_cells q0
  go_wp2_with fail
  refine (enc_ok _ _ _ _ _ h').mono ?_
  rintro e w3 ⟨rfl, f1⟩
  replace r0 := r0.keep f1 (fun h => h)
  replace q0 := q0.keep f1 (fun h => h)
  replace f0 := f0.trans f1
  clear f1 c0 c1 c2 c3 d0 d1 d2 d3
  obtain ⟨c0, c1, c2, c3⟩ := ebox_cells r0
  obtain ⟨d0, d1, d2, d3⟩ := ebox_cells q0
  go_wp2_with fail
  refine (right_yes _ _ _ _ _ h).mono ?_
  rintro e w4 ⟨rfl, f1⟩
  replace r0 := r0.keep f1 (fun h => h)
  replace q0 := q0.keep f1 (fun h => h)
  replace f0 := f0.trans f1
  clear f1 c0 c1 c2 c3 d0 d1 d2 d3
  obtain ⟨c0, c1, c2, c3⟩ := ebox_cells r0
  obtain ⟨d0, d1, d2, d3⟩ := ebox_cells q0
  go_wp2_with fail
  refine (dec_word_back _ _ _ _ _ h).mono ?_
  rintro e w5 ⟨rfl, f1⟩
  replace r0 := (r0.keep f1 (fun h => h)).alloc (.cells (ebox false false 0 0) 23)
  replace q0 := (q0.keep f1 (fun h => h)).alloc (.cells (ebox false false 0 0) 23)
  replace f0 := (f0.trans f1).alloc (.cells (ebox false false 0 0) 23)
  unfold ebox at f0
  clear f1 c0 c1 c2 c3 d0 d1 d2 d3
  obtain ⟨c0, c1, c2, c3⟩ := ebox_cells r0
  obtain ⟨d0, d1, d2, d3⟩ := ebox_cells q0
  unfold ebox at c0 c1 c2 c3 d0 d1 d2 d3
  go_wp2_with fail
  go_ret
  exact ⟨rfl, f0⟩

set_option maxHeartbeats 1600000 in
theorem back_node_wrong (f : Int) (v' l' : Bool) (r' f' : Int) (w : World) (h : rightE true false 0 f = true) (h' : rightE v' l' r' f' = false) :
    Calls Try.prog 4 #[.agg #[.bool true, .bool false, .int .i64 0, .int .i64 f], .agg #[.bool v', .bool l', .int .i64 r', .int .i64 f']] w fun e w' => e = .returned (.bool true) ∧ Fr none' w w' := by
  have f0 := ((Fr.refl none' w).alloc (.cells (ebox true false 0 f) 23)).alloc (.cells (ebox v' l' r' f') 23)
  have r0 := (row_alloc w (ebox true false 0 f) 23).alloc (.cells (ebox v' l' r' f') 23)
  have q0 := row_alloc (w.alloc (.cells (ebox true false 0 f) 23)) (ebox v' l' r' f') 23
  rw [show (w.alloc (.cells (ebox true false 0 f) 23)).heap.size = w.heap.size + 1 by simp] at q0
  unfold ebox at f0
  have e2 : (f == f) = true := by simp
  go_enter Try.func4, Try.ntmps4
  go_wp2_with fail
  refine (awake_any _).mono ?_
  rintro e w1 ⟨rfl, f1⟩
  replace r0 := r0.keep f1 (fun h => h)
  replace q0 := q0.keep f1 (fun h => h)
  replace f0 := f0.trans f1
  clear f1
  obtain ⟨c0, c1, c2, c3⟩ := ebox_cells r0
  obtain ⟨d0, d1, d2, d3⟩ := ebox_cells q0
  go_wp2_with fail
  refine (enc_ok _ _ _ _ _ h).mono ?_
  rintro e w2 ⟨rfl, f1⟩
  replace r0 := r0.keep f1 (fun h => h)
  replace q0 := q0.keep f1 (fun h => h)
  replace f0 := f0.trans f1
  clear f1 c0 c1 c2 c3 d0 d1 d2 d3
  obtain ⟨c0, c1, c2, c3⟩ := ebox_cells r0
  obtain ⟨d0, d1, d2, d3⟩ := ebox_cells q0
  go_wp2_with fail
  refine (enc_bad _ _ _ _ _ h').mono ?_
  rintro e w3 ⟨rfl, f1⟩
  replace r0 := r0.keep f1 (fun h => h)
  replace q0 := q0.keep f1 (fun h => h)
  replace f0 := f0.trans f1
  clear f1 c0 c1 c2 c3 d0 d1 d2 d3
  obtain ⟨c0, c1, c2, c3⟩ := ebox_cells r0
  obtain ⟨d0, d1, d2, d3⟩ := ebox_cells q0
  go_wp2_with fail
  refine (right_yes _ _ _ _ _ h).mono ?_
  rintro e w4 ⟨rfl, f1⟩
  replace r0 := r0.keep f1 (fun h => h)
  replace q0 := q0.keep f1 (fun h => h)
  replace f0 := f0.trans f1
  clear f1 c0 c1 c2 c3 d0 d1 d2 d3
  obtain ⟨c0, c1, c2, c3⟩ := ebox_cells r0
  obtain ⟨d0, d1, d2, d3⟩ := ebox_cells q0
  go_wp2_with fail
  refine (dec_word_back _ _ _ _ _ h).mono ?_
  rintro e w5 ⟨rfl, f1⟩
  replace r0 := (r0.keep f1 (fun h => h)).alloc (.cells (ebox true false 0 f) 23)
  replace q0 := (q0.keep f1 (fun h => h)).alloc (.cells (ebox true false 0 f) 23)
  replace f0 := (f0.trans f1).alloc (.cells (ebox true false 0 f) 23)
  unfold ebox at f0
  clear f1 c0 c1 c2 c3 d0 d1 d2 d3
  obtain ⟨c0, c1, c2, c3⟩ := ebox_cells r0
  obtain ⟨d0, d1, d2, d3⟩ := ebox_cells q0
  unfold ebox at c0 c1 c2 c3 d0 d1 d2 d3
  go_wp2_with fail
  go_ret
  exact ⟨rfl, f0⟩

set_option maxHeartbeats 1600000 in
theorem back_node_none (f : Int) (w : World) (h : rightE true false 0 f = true) (h' : rightE false false 0 0 = true) :
    Calls Try.prog 4 #[.agg #[.bool true, .bool false, .int .i64 0, .int .i64 f], .agg #[.bool false, .bool false, .int .i64 0, .int .i64 0]] w fun e w' => e = .returned (.bool true) ∧ Fr none' w w' := by
  have f0 := ((Fr.refl none' w).alloc (.cells (ebox true false 0 f) 23)).alloc (.cells (ebox false false 0 0) 23)
  have r0 := (row_alloc w (ebox true false 0 f) 23).alloc (.cells (ebox false false 0 0) 23)
  have q0 := row_alloc (w.alloc (.cells (ebox true false 0 f) 23)) (ebox false false 0 0) 23
  rw [show (w.alloc (.cells (ebox true false 0 f) 23)).heap.size = w.heap.size + 1 by simp] at q0
  unfold ebox at f0
  have e2 : (f == f) = true := by simp
  have t1 : (wordE true false 0 f == wordE false false 0 0) = false := by simp; intro e; have := word_inj h h' e; simp at this
  go_enter Try.func4, Try.ntmps4
  go_wp2_with fail
  refine (awake_any _).mono ?_
  rintro e w1 ⟨rfl, f1⟩
  replace r0 := r0.keep f1 (fun h => h)
  replace q0 := q0.keep f1 (fun h => h)
  replace f0 := f0.trans f1
  clear f1
  obtain ⟨c0, c1, c2, c3⟩ := ebox_cells r0
  obtain ⟨d0, d1, d2, d3⟩ := ebox_cells q0
  go_wp2_with fail
  refine (enc_ok _ _ _ _ _ h).mono ?_
  rintro e w2 ⟨rfl, f1⟩
  replace r0 := r0.keep f1 (fun h => h)
  replace q0 := q0.keep f1 (fun h => h)
  replace f0 := f0.trans f1
  clear f1 c0 c1 c2 c3 d0 d1 d2 d3
  obtain ⟨c0, c1, c2, c3⟩ := ebox_cells r0
  obtain ⟨d0, d1, d2, d3⟩ := ebox_cells q0
  go_wp2_with fail
  refine (enc_ok _ _ _ _ _ h').mono ?_
  rintro e w3 ⟨rfl, f1⟩
  replace r0 := r0.keep f1 (fun h => h)
  replace q0 := q0.keep f1 (fun h => h)
  replace f0 := f0.trans f1
  clear f1 c0 c1 c2 c3 d0 d1 d2 d3
  obtain ⟨c0, c1, c2, c3⟩ := ebox_cells r0
  obtain ⟨d0, d1, d2, d3⟩ := ebox_cells q0
  go_wp2_with fail
  refine (right_yes _ _ _ _ _ h).mono ?_
  rintro e w4 ⟨rfl, f1⟩
  replace r0 := r0.keep f1 (fun h => h)
  replace q0 := q0.keep f1 (fun h => h)
  replace f0 := f0.trans f1
  clear f1 c0 c1 c2 c3 d0 d1 d2 d3
  obtain ⟨c0, c1, c2, c3⟩ := ebox_cells r0
  obtain ⟨d0, d1, d2, d3⟩ := ebox_cells q0
  go_wp2_with fail
  refine (dec_word_back _ _ _ _ _ h).mono ?_
  rintro e w5 ⟨rfl, f1⟩
  replace r0 := (r0.keep f1 (fun h => h)).alloc (.cells (ebox true false 0 f) 23)
  replace q0 := (q0.keep f1 (fun h => h)).alloc (.cells (ebox true false 0 f) 23)
  replace f0 := (f0.trans f1).alloc (.cells (ebox true false 0 f) 23)
  unfold ebox at f0
  clear f1 c0 c1 c2 c3 d0 d1 d2 d3
  obtain ⟨c0, c1, c2, c3⟩ := ebox_cells r0
  obtain ⟨d0, d1, d2, d3⟩ := ebox_cells q0
  unfold ebox at c0 c1 c2 c3 d0 d1 d2 d3
  go_wp2_with fail
  go_ret
  exact ⟨rfl, f0⟩

set_option maxHeartbeats 1600000 in
theorem back_node_same (f : Int) (w : World) (h : rightE true false 0 f = true) :
    Calls Try.prog 4 #[.agg #[.bool true, .bool false, .int .i64 0, .int .i64 f], .agg #[.bool true, .bool false, .int .i64 0, .int .i64 f]] w fun e w' => e = .returned (.bool true) ∧ Fr none' w w' := by
  have f0 := ((Fr.refl none' w).alloc (.cells (ebox true false 0 f) 23)).alloc (.cells (ebox true false 0 f) 23)
  have r0 := (row_alloc w (ebox true false 0 f) 23).alloc (.cells (ebox true false 0 f) 23)
  have q0 := row_alloc (w.alloc (.cells (ebox true false 0 f) 23)) (ebox true false 0 f) 23
  rw [show (w.alloc (.cells (ebox true false 0 f) 23)).heap.size = w.heap.size + 1 by simp] at q0
  unfold ebox at f0
  have e2 : (f == f) = true := by simp
  have t1 : (wordE true false 0 f == wordE true false 0 f) = true := by simp
  go_enter Try.func4, Try.ntmps4
  go_wp2_with fail
  refine (awake_any _).mono ?_
  rintro e w1 ⟨rfl, f1⟩
  replace r0 := r0.keep f1 (fun h => h)
  replace q0 := q0.keep f1 (fun h => h)
  replace f0 := f0.trans f1
  clear f1
  obtain ⟨c0, c1, c2, c3⟩ := ebox_cells r0
  obtain ⟨d0, d1, d2, d3⟩ := ebox_cells q0
  go_wp2_with fail
  refine (enc_ok _ _ _ _ _ h).mono ?_
  rintro e w2 ⟨rfl, f1⟩
  replace r0 := r0.keep f1 (fun h => h)
  replace q0 := q0.keep f1 (fun h => h)
  replace f0 := f0.trans f1
  clear f1 c0 c1 c2 c3 d0 d1 d2 d3
  obtain ⟨c0, c1, c2, c3⟩ := ebox_cells r0
  obtain ⟨d0, d1, d2, d3⟩ := ebox_cells q0
  go_wp2_with fail
  refine (enc_ok _ _ _ _ _ h).mono ?_
  rintro e w3 ⟨rfl, f1⟩
  replace r0 := r0.keep f1 (fun h => h)
  replace q0 := q0.keep f1 (fun h => h)
  replace f0 := f0.trans f1
  clear f1 c0 c1 c2 c3 d0 d1 d2 d3
  obtain ⟨c0, c1, c2, c3⟩ := ebox_cells r0
  obtain ⟨d0, d1, d2, d3⟩ := ebox_cells q0
  go_wp2_with fail
  refine (right_yes _ _ _ _ _ h).mono ?_
  rintro e w4 ⟨rfl, f1⟩
  replace r0 := r0.keep f1 (fun h => h)
  replace q0 := q0.keep f1 (fun h => h)
  replace f0 := f0.trans f1
  clear f1 c0 c1 c2 c3 d0 d1 d2 d3
  obtain ⟨c0, c1, c2, c3⟩ := ebox_cells r0
  obtain ⟨d0, d1, d2, d3⟩ := ebox_cells q0
  go_wp2_with fail
  refine (dec_word_back _ _ _ _ _ h).mono ?_
  rintro e w5 ⟨rfl, f1⟩
  replace r0 := (r0.keep f1 (fun h => h)).alloc (.cells (ebox true false 0 f) 23)
  replace q0 := (q0.keep f1 (fun h => h)).alloc (.cells (ebox true false 0 f) 23)
  replace f0 := (f0.trans f1).alloc (.cells (ebox true false 0 f) 23)
  unfold ebox at f0
  clear f1 c0 c1 c2 c3 d0 d1 d2 d3
  obtain ⟨c0, c1, c2, c3⟩ := ebox_cells r0
  obtain ⟨d0, d1, d2, d3⟩ := ebox_cells q0
  unfold ebox at c0 c1 c2 c3 d0 d1 d2 d3
  go_wp2_with fail
  go_ret
  exact ⟨rfl, f0⟩

set_option maxHeartbeats 1600000 in
theorem back_node_f (f : Int) (f' : Int) (w : World) (h : rightE true false 0 f = true) (h' : rightE true false 0 f' = true) (hn : f ≠ f') :
    Calls Try.prog 4 #[.agg #[.bool true, .bool false, .int .i64 0, .int .i64 f], .agg #[.bool true, .bool false, .int .i64 0, .int .i64 f']] w fun e w' => e = .returned (.bool true) ∧ Fr none' w w' := by
  have f0 := ((Fr.refl none' w).alloc (.cells (ebox true false 0 f) 23)).alloc (.cells (ebox true false 0 f') 23)
  have r0 := (row_alloc w (ebox true false 0 f) 23).alloc (.cells (ebox true false 0 f') 23)
  have q0 := row_alloc (w.alloc (.cells (ebox true false 0 f) 23)) (ebox true false 0 f') 23
  rw [show (w.alloc (.cells (ebox true false 0 f) 23)).heap.size = w.heap.size + 1 by simp] at q0
  unfold ebox at f0
  have e2 : (f == f) = true := by simp
  have t1 : (wordE true false 0 f == wordE true false 0 f') = false := by simp; intro e; have := word_inj h h' e; simp at this; omega
  have t2 : (f == f') = false := by simpa using hn
  go_enter Try.func4, Try.ntmps4
  go_wp2_with fail
  refine (awake_any _).mono ?_
  rintro e w1 ⟨rfl, f1⟩
  replace r0 := r0.keep f1 (fun h => h)
  replace q0 := q0.keep f1 (fun h => h)
  replace f0 := f0.trans f1
  clear f1
  obtain ⟨c0, c1, c2, c3⟩ := ebox_cells r0
  obtain ⟨d0, d1, d2, d3⟩ := ebox_cells q0
  go_wp2_with fail
  refine (enc_ok _ _ _ _ _ h).mono ?_
  rintro e w2 ⟨rfl, f1⟩
  replace r0 := r0.keep f1 (fun h => h)
  replace q0 := q0.keep f1 (fun h => h)
  replace f0 := f0.trans f1
  clear f1 c0 c1 c2 c3 d0 d1 d2 d3
  obtain ⟨c0, c1, c2, c3⟩ := ebox_cells r0
  obtain ⟨d0, d1, d2, d3⟩ := ebox_cells q0
  go_wp2_with fail
  refine (enc_ok _ _ _ _ _ h').mono ?_
  rintro e w3 ⟨rfl, f1⟩
  replace r0 := r0.keep f1 (fun h => h)
  replace q0 := q0.keep f1 (fun h => h)
  replace f0 := f0.trans f1
  clear f1 c0 c1 c2 c3 d0 d1 d2 d3
  obtain ⟨c0, c1, c2, c3⟩ := ebox_cells r0
  obtain ⟨d0, d1, d2, d3⟩ := ebox_cells q0
  go_wp2_with fail
  refine (right_yes _ _ _ _ _ h).mono ?_
  rintro e w4 ⟨rfl, f1⟩
  replace r0 := r0.keep f1 (fun h => h)
  replace q0 := q0.keep f1 (fun h => h)
  replace f0 := f0.trans f1
  clear f1 c0 c1 c2 c3 d0 d1 d2 d3
  obtain ⟨c0, c1, c2, c3⟩ := ebox_cells r0
  obtain ⟨d0, d1, d2, d3⟩ := ebox_cells q0
  go_wp2_with fail
  refine (dec_word_back _ _ _ _ _ h).mono ?_
  rintro e w5 ⟨rfl, f1⟩
  replace r0 := (r0.keep f1 (fun h => h)).alloc (.cells (ebox true false 0 f) 23)
  replace q0 := (q0.keep f1 (fun h => h)).alloc (.cells (ebox true false 0 f) 23)
  replace f0 := (f0.trans f1).alloc (.cells (ebox true false 0 f) 23)
  unfold ebox at f0
  clear f1 c0 c1 c2 c3 d0 d1 d2 d3
  obtain ⟨c0, c1, c2, c3⟩ := ebox_cells r0
  obtain ⟨d0, d1, d2, d3⟩ := ebox_cells q0
  unfold ebox at c0 c1 c2 c3 d0 d1 d2 d3
  go_wp2_with fail
  go_ret
  exact ⟨rfl, f0⟩

set_option maxHeartbeats 1600000 in
theorem back_node_leaf (f : Int) (r' f' : Int) (w : World) (h : rightE true false 0 f = true) (h' : rightE true true r' f' = true) :
    Calls Try.prog 4 #[.agg #[.bool true, .bool false, .int .i64 0, .int .i64 f], .agg #[.bool true, .bool true, .int .i64 r', .int .i64 f']] w fun e w' => e = .returned (.bool true) ∧ Fr none' w w' := by
  have f0 := ((Fr.refl none' w).alloc (.cells (ebox true false 0 f) 23)).alloc (.cells (ebox true true r' f') 23)
  have r0 := (row_alloc w (ebox true false 0 f) 23).alloc (.cells (ebox true true r' f') 23)
  have q0 := row_alloc (w.alloc (.cells (ebox true false 0 f) 23)) (ebox true true r' f') 23
  rw [show (w.alloc (.cells (ebox true false 0 f) 23)).heap.size = w.heap.size + 1 by simp] at q0
  unfold ebox at f0
  have e2 : (f == f) = true := by simp
  have t1 : (wordE true false 0 f == wordE true true r' f') = false := by simp; intro e; have := word_inj h h' e; simp at this
  go_enter Try.func4, Try.ntmps4
  go_wp2_with fail
  refine (awake_any _).mono ?_
  rintro e w1 ⟨rfl, f1⟩
  replace r0 := r0.keep f1 (fun h => h)
  replace q0 := q0.keep f1 (fun h => h)
  replace f0 := f0.trans f1
  clear f1
  obtain ⟨c0, c1, c2, c3⟩ := ebox_cells r0
  obtain ⟨d0, d1, d2, d3⟩ := ebox_cells q0
  go_wp2_with fail
  refine (enc_ok _ _ _ _ _ h).mono ?_
  rintro e w2 ⟨rfl, f1⟩
  replace r0 := r0.keep f1 (fun h => h)
  replace q0 := q0.keep f1 (fun h => h)
  replace f0 := f0.trans f1
  clear f1 c0 c1 c2 c3 d0 d1 d2 d3
  obtain ⟨c0, c1, c2, c3⟩ := ebox_cells r0
  obtain ⟨d0, d1, d2, d3⟩ := ebox_cells q0
  go_wp2_with fail
  refine (enc_ok _ _ _ _ _ h').mono ?_
  rintro e w3 ⟨rfl, f1⟩
  replace r0 := r0.keep f1 (fun h => h)
  replace q0 := q0.keep f1 (fun h => h)
  replace f0 := f0.trans f1
  clear f1 c0 c1 c2 c3 d0 d1 d2 d3
  obtain ⟨c0, c1, c2, c3⟩ := ebox_cells r0
  obtain ⟨d0, d1, d2, d3⟩ := ebox_cells q0
  go_wp2_with fail
  refine (right_yes _ _ _ _ _ h).mono ?_
  rintro e w4 ⟨rfl, f1⟩
  replace r0 := r0.keep f1 (fun h => h)
  replace q0 := q0.keep f1 (fun h => h)
  replace f0 := f0.trans f1
  clear f1 c0 c1 c2 c3 d0 d1 d2 d3
  obtain ⟨c0, c1, c2, c3⟩ := ebox_cells r0
  obtain ⟨d0, d1, d2, d3⟩ := ebox_cells q0
  go_wp2_with fail
  refine (dec_word_back _ _ _ _ _ h).mono ?_
  rintro e w5 ⟨rfl, f1⟩
  replace r0 := (r0.keep f1 (fun h => h)).alloc (.cells (ebox true false 0 f) 23)
  replace q0 := (q0.keep f1 (fun h => h)).alloc (.cells (ebox true false 0 f) 23)
  replace f0 := (f0.trans f1).alloc (.cells (ebox true false 0 f) 23)
  unfold ebox at f0
  clear f1 c0 c1 c2 c3 d0 d1 d2 d3
  obtain ⟨c0, c1, c2, c3⟩ := ebox_cells r0
  obtain ⟨d0, d1, d2, d3⟩ := ebox_cells q0
  unfold ebox at c0 c1 c2 c3 d0 d1 d2 d3
  go_wp2_with fail
  go_ret
  exact ⟨rfl, f0⟩

set_option maxHeartbeats 1600000 in
theorem back_leaf_wrong (r f : Int) (v' l' : Bool) (r' f' : Int) (w : World) (h : rightE true true r f = true) (h' : rightE v' l' r' f' = false) :
    Calls Try.prog 4 #[.agg #[.bool true, .bool true, .int .i64 r, .int .i64 f], .agg #[.bool v', .bool l', .int .i64 r', .int .i64 f']] w fun e w' => e = .returned (.bool true) ∧ Fr none' w w' := by
  have f0 := ((Fr.refl none' w).alloc (.cells (ebox true true r f) 23)).alloc (.cells (ebox v' l' r' f') 23)
  have r0 := (row_alloc w (ebox true true r f) 23).alloc (.cells (ebox v' l' r' f') 23)
  have q0 := row_alloc (w.alloc (.cells (ebox true true r f) 23)) (ebox v' l' r' f') 23
  rw [show (w.alloc (.cells (ebox true true r f) 23)).heap.size = w.heap.size + 1 by simp] at q0
  unfold ebox at f0
  have e2 : (f == f) = true := by simp
  have e1 : (r == r) = true := by simp
  go_enter Try.func4, Try.ntmps4
  go_wp2_with fail
  refine (awake_any _).mono ?_
  rintro e w1 ⟨rfl, f1⟩
  replace r0 := r0.keep f1 (fun h => h)
  replace q0 := q0.keep f1 (fun h => h)
  replace f0 := f0.trans f1
  clear f1
  obtain ⟨c0, c1, c2, c3⟩ := ebox_cells r0
  obtain ⟨d0, d1, d2, d3⟩ := ebox_cells q0
  go_wp2_with fail
  refine (enc_ok _ _ _ _ _ h).mono ?_
  rintro e w2 ⟨rfl, f1⟩
  replace r0 := r0.keep f1 (fun h => h)
  replace q0 := q0.keep f1 (fun h => h)
  replace f0 := f0.trans f1
  clear f1 c0 c1 c2 c3 d0 d1 d2 d3
  obtain ⟨c0, c1, c2, c3⟩ := ebox_cells r0
  obtain ⟨d0, d1, d2, d3⟩ := ebox_cells q0
  go_wp2_with fail
  refine (enc_bad _ _ _ _ _ h').mono ?_
  rintro e w3 ⟨rfl, f1⟩
  replace r0 := r0.keep f1 (fun h => h)
  replace q0 := q0.keep f1 (fun h => h)
  replace f0 := f0.trans f1
  clear f1 c0 c1 c2 c3 d0 d1 d2 d3
  obtain ⟨c0, c1, c2, c3⟩ := ebox_cells r0
  obtain ⟨d0, d1, d2, d3⟩ := ebox_cells q0
  go_wp2_with fail
  refine (right_yes _ _ _ _ _ h).mono ?_
  rintro e w4 ⟨rfl, f1⟩
  replace r0 := r0.keep f1 (fun h => h)
  replace q0 := q0.keep f1 (fun h => h)
  replace f0 := f0.trans f1
  clear f1 c0 c1 c2 c3 d0 d1 d2 d3
  obtain ⟨c0, c1, c2, c3⟩ := ebox_cells r0
  obtain ⟨d0, d1, d2, d3⟩ := ebox_cells q0
  go_wp2_with fail
  refine (dec_word_back _ _ _ _ _ h).mono ?_
  rintro e w5 ⟨rfl, f1⟩
  replace r0 := (r0.keep f1 (fun h => h)).alloc (.cells (ebox true true r f) 23)
  replace q0 := (q0.keep f1 (fun h => h)).alloc (.cells (ebox true true r f) 23)
  replace f0 := (f0.trans f1).alloc (.cells (ebox true true r f) 23)
  unfold ebox at f0
  clear f1 c0 c1 c2 c3 d0 d1 d2 d3
  obtain ⟨c0, c1, c2, c3⟩ := ebox_cells r0
  obtain ⟨d0, d1, d2, d3⟩ := ebox_cells q0
  unfold ebox at c0 c1 c2 c3 d0 d1 d2 d3
  go_wp2_with fail
  go_ret
  exact ⟨rfl, f0⟩

set_option maxHeartbeats 1600000 in
theorem back_leaf_none (r f : Int) (w : World) (h : rightE true true r f = true) (h' : rightE false false 0 0 = true) :
    Calls Try.prog 4 #[.agg #[.bool true, .bool true, .int .i64 r, .int .i64 f], .agg #[.bool false, .bool false, .int .i64 0, .int .i64 0]] w fun e w' => e = .returned (.bool true) ∧ Fr none' w w' := by
  have f0 := ((Fr.refl none' w).alloc (.cells (ebox true true r f) 23)).alloc (.cells (ebox false false 0 0) 23)
  have r0 := (row_alloc w (ebox true true r f) 23).alloc (.cells (ebox false false 0 0) 23)
  have q0 := row_alloc (w.alloc (.cells (ebox true true r f) 23)) (ebox false false 0 0) 23
  rw [show (w.alloc (.cells (ebox true true r f) 23)).heap.size = w.heap.size + 1 by simp] at q0
  unfold ebox at f0
  have e2 : (f == f) = true := by simp
  have e1 : (r == r) = true := by simp
  have t1 : (wordE true true r f == wordE false false 0 0) = false := by simp; intro e; have := word_inj h h' e; simp at this
  go_enter Try.func4, Try.ntmps4
  go_wp2_with fail
  refine (awake_any _).mono ?_
  rintro e w1 ⟨rfl, f1⟩
  replace r0 := r0.keep f1 (fun h => h)
  replace q0 := q0.keep f1 (fun h => h)
  replace f0 := f0.trans f1
  clear f1
  obtain ⟨c0, c1, c2, c3⟩ := ebox_cells r0
  obtain ⟨d0, d1, d2, d3⟩ := ebox_cells q0
  go_wp2_with fail
  refine (enc_ok _ _ _ _ _ h).mono ?_
  rintro e w2 ⟨rfl, f1⟩
  replace r0 := r0.keep f1 (fun h => h)
  replace q0 := q0.keep f1 (fun h => h)
  replace f0 := f0.trans f1
  clear f1 c0 c1 c2 c3 d0 d1 d2 d3
  obtain ⟨c0, c1, c2, c3⟩ := ebox_cells r0
  obtain ⟨d0, d1, d2, d3⟩ := ebox_cells q0
  go_wp2_with fail
  refine (enc_ok _ _ _ _ _ h').mono ?_
  rintro e w3 ⟨rfl, f1⟩
  replace r0 := r0.keep f1 (fun h => h)
  replace q0 := q0.keep f1 (fun h => h)
  replace f0 := f0.trans f1
  clear f1 c0 c1 c2 c3 d0 d1 d2 d3
  obtain ⟨c0, c1, c2, c3⟩ := ebox_cells r0
  obtain ⟨d0, d1, d2, d3⟩ := ebox_cells q0
  go_wp2_with fail
  refine (right_yes _ _ _ _ _ h).mono ?_
  rintro e w4 ⟨rfl, f1⟩
  replace r0 := r0.keep f1 (fun h => h)
  replace q0 := q0.keep f1 (fun h => h)
  replace f0 := f0.trans f1
  clear f1 c0 c1 c2 c3 d0 d1 d2 d3
  obtain ⟨c0, c1, c2, c3⟩ := ebox_cells r0
  obtain ⟨d0, d1, d2, d3⟩ := ebox_cells q0
  go_wp2_with fail
  refine (dec_word_back _ _ _ _ _ h).mono ?_
  rintro e w5 ⟨rfl, f1⟩
  replace r0 := (r0.keep f1 (fun h => h)).alloc (.cells (ebox true true r f) 23)
  replace q0 := (q0.keep f1 (fun h => h)).alloc (.cells (ebox true true r f) 23)
  replace f0 := (f0.trans f1).alloc (.cells (ebox true true r f) 23)
  unfold ebox at f0
  clear f1 c0 c1 c2 c3 d0 d1 d2 d3
  obtain ⟨c0, c1, c2, c3⟩ := ebox_cells r0
  obtain ⟨d0, d1, d2, d3⟩ := ebox_cells q0
  unfold ebox at c0 c1 c2 c3 d0 d1 d2 d3
  go_wp2_with fail
  go_ret
  exact ⟨rfl, f0⟩

set_option maxHeartbeats 1600000 in
theorem back_leaf_node (r f : Int) (f' : Int) (w : World) (h : rightE true true r f = true) (h' : rightE true false 0 f' = true) :
    Calls Try.prog 4 #[.agg #[.bool true, .bool true, .int .i64 r, .int .i64 f], .agg #[.bool true, .bool false, .int .i64 0, .int .i64 f']] w fun e w' => e = .returned (.bool true) ∧ Fr none' w w' := by
  have f0 := ((Fr.refl none' w).alloc (.cells (ebox true true r f) 23)).alloc (.cells (ebox true false 0 f') 23)
  have r0 := (row_alloc w (ebox true true r f) 23).alloc (.cells (ebox true false 0 f') 23)
  have q0 := row_alloc (w.alloc (.cells (ebox true true r f) 23)) (ebox true false 0 f') 23
  rw [show (w.alloc (.cells (ebox true true r f) 23)).heap.size = w.heap.size + 1 by simp] at q0
  unfold ebox at f0
  have e2 : (f == f) = true := by simp
  have e1 : (r == r) = true := by simp
  have t1 : (wordE true true r f == wordE true false 0 f') = false := by simp; intro e; have := word_inj h h' e; simp at this
  go_enter Try.func4, Try.ntmps4
  go_wp2_with fail
  refine (awake_any _).mono ?_
  rintro e w1 ⟨rfl, f1⟩
  replace r0 := r0.keep f1 (fun h => h)
  replace q0 := q0.keep f1 (fun h => h)
  replace f0 := f0.trans f1
  clear f1
  obtain ⟨c0, c1, c2, c3⟩ := ebox_cells r0
  obtain ⟨d0, d1, d2, d3⟩ := ebox_cells q0
  go_wp2_with fail
  refine (enc_ok _ _ _ _ _ h).mono ?_
  rintro e w2 ⟨rfl, f1⟩
  replace r0 := r0.keep f1 (fun h => h)
  replace q0 := q0.keep f1 (fun h => h)
  replace f0 := f0.trans f1
  clear f1 c0 c1 c2 c3 d0 d1 d2 d3
  obtain ⟨c0, c1, c2, c3⟩ := ebox_cells r0
  obtain ⟨d0, d1, d2, d3⟩ := ebox_cells q0
  go_wp2_with fail
  refine (enc_ok _ _ _ _ _ h').mono ?_
  rintro e w3 ⟨rfl, f1⟩
  replace r0 := r0.keep f1 (fun h => h)
  replace q0 := q0.keep f1 (fun h => h)
  replace f0 := f0.trans f1
  clear f1 c0 c1 c2 c3 d0 d1 d2 d3
  obtain ⟨c0, c1, c2, c3⟩ := ebox_cells r0
  obtain ⟨d0, d1, d2, d3⟩ := ebox_cells q0
  go_wp2_with fail
  refine (right_yes _ _ _ _ _ h).mono ?_
  rintro e w4 ⟨rfl, f1⟩
  replace r0 := r0.keep f1 (fun h => h)
  replace q0 := q0.keep f1 (fun h => h)
  replace f0 := f0.trans f1
  clear f1 c0 c1 c2 c3 d0 d1 d2 d3
  obtain ⟨c0, c1, c2, c3⟩ := ebox_cells r0
  obtain ⟨d0, d1, d2, d3⟩ := ebox_cells q0
  go_wp2_with fail
  refine (dec_word_back _ _ _ _ _ h).mono ?_
  rintro e w5 ⟨rfl, f1⟩
  replace r0 := (r0.keep f1 (fun h => h)).alloc (.cells (ebox true true r f) 23)
  replace q0 := (q0.keep f1 (fun h => h)).alloc (.cells (ebox true true r f) 23)
  replace f0 := (f0.trans f1).alloc (.cells (ebox true true r f) 23)
  unfold ebox at f0
  clear f1 c0 c1 c2 c3 d0 d1 d2 d3
  obtain ⟨c0, c1, c2, c3⟩ := ebox_cells r0
  obtain ⟨d0, d1, d2, d3⟩ := ebox_cells q0
  unfold ebox at c0 c1 c2 c3 d0 d1 d2 d3
  go_wp2_with fail
  go_ret
  exact ⟨rfl, f0⟩

set_option maxHeartbeats 1600000 in
theorem back_leaf_same (r f : Int) (w : World) (h : rightE true true r f = true) :
    Calls Try.prog 4 #[.agg #[.bool true, .bool true, .int .i64 r, .int .i64 f], .agg #[.bool true, .bool true, .int .i64 r, .int .i64 f]] w fun e w' => e = .returned (.bool true) ∧ Fr none' w w' := by
  have f0 := ((Fr.refl none' w).alloc (.cells (ebox true true r f) 23)).alloc (.cells (ebox true true r f) 23)
  have r0 := (row_alloc w (ebox true true r f) 23).alloc (.cells (ebox true true r f) 23)
  have q0 := row_alloc (w.alloc (.cells (ebox true true r f) 23)) (ebox true true r f) 23
  rw [show (w.alloc (.cells (ebox true true r f) 23)).heap.size = w.heap.size + 1 by simp] at q0
  unfold ebox at f0
  have e2 : (f == f) = true := by simp
  have e1 : (r == r) = true := by simp
  have t1 : (wordE true true r f == wordE true true r f) = true := by simp
  go_enter Try.func4, Try.ntmps4
  go_wp2_with fail
  refine (awake_any _).mono ?_
  rintro e w1 ⟨rfl, f1⟩
  replace r0 := r0.keep f1 (fun h => h)
  replace q0 := q0.keep f1 (fun h => h)
  replace f0 := f0.trans f1
  clear f1
  obtain ⟨c0, c1, c2, c3⟩ := ebox_cells r0
  obtain ⟨d0, d1, d2, d3⟩ := ebox_cells q0
  go_wp2_with fail
  refine (enc_ok _ _ _ _ _ h).mono ?_
  rintro e w2 ⟨rfl, f1⟩
  replace r0 := r0.keep f1 (fun h => h)
  replace q0 := q0.keep f1 (fun h => h)
  replace f0 := f0.trans f1
  clear f1 c0 c1 c2 c3 d0 d1 d2 d3
  obtain ⟨c0, c1, c2, c3⟩ := ebox_cells r0
  obtain ⟨d0, d1, d2, d3⟩ := ebox_cells q0
  go_wp2_with fail
  refine (enc_ok _ _ _ _ _ h).mono ?_
  rintro e w3 ⟨rfl, f1⟩
  replace r0 := r0.keep f1 (fun h => h)
  replace q0 := q0.keep f1 (fun h => h)
  replace f0 := f0.trans f1
  clear f1 c0 c1 c2 c3 d0 d1 d2 d3
  obtain ⟨c0, c1, c2, c3⟩ := ebox_cells r0
  obtain ⟨d0, d1, d2, d3⟩ := ebox_cells q0
  go_wp2_with fail
  refine (right_yes _ _ _ _ _ h).mono ?_
  rintro e w4 ⟨rfl, f1⟩
  replace r0 := r0.keep f1 (fun h => h)
  replace q0 := q0.keep f1 (fun h => h)
  replace f0 := f0.trans f1
  clear f1 c0 c1 c2 c3 d0 d1 d2 d3
  obtain ⟨c0, c1, c2, c3⟩ := ebox_cells r0
  obtain ⟨d0, d1, d2, d3⟩ := ebox_cells q0
  go_wp2_with fail
  refine (dec_word_back _ _ _ _ _ h).mono ?_
  rintro e w5 ⟨rfl, f1⟩
  replace r0 := (r0.keep f1 (fun h => h)).alloc (.cells (ebox true true r f) 23)
  replace q0 := (q0.keep f1 (fun h => h)).alloc (.cells (ebox true true r f) 23)
  replace f0 := (f0.trans f1).alloc (.cells (ebox true true r f) 23)
  unfold ebox at f0
  clear f1 c0 c1 c2 c3 d0 d1 d2 d3
  obtain ⟨c0, c1, c2, c3⟩ := ebox_cells r0
  obtain ⟨d0, d1, d2, d3⟩ := ebox_cells q0
  unfold ebox at c0 c1 c2 c3 d0 d1 d2 d3
  go_wp2_with fail
  go_ret
  exact ⟨rfl, f0⟩

set_option maxHeartbeats 1600000 in
theorem back_leaf_r (r f : Int) (r' f' : Int) (w : World) (h : rightE true true r f = true) (h' : rightE true true r' f' = true) (hn : r ≠ r') :
    Calls Try.prog 4 #[.agg #[.bool true, .bool true, .int .i64 r, .int .i64 f], .agg #[.bool true, .bool true, .int .i64 r', .int .i64 f']] w fun e w' => e = .returned (.bool true) ∧ Fr none' w w' := by
  have f0 := ((Fr.refl none' w).alloc (.cells (ebox true true r f) 23)).alloc (.cells (ebox true true r' f') 23)
  have r0 := (row_alloc w (ebox true true r f) 23).alloc (.cells (ebox true true r' f') 23)
  have q0 := row_alloc (w.alloc (.cells (ebox true true r f) 23)) (ebox true true r' f') 23
  rw [show (w.alloc (.cells (ebox true true r f) 23)).heap.size = w.heap.size + 1 by simp] at q0
  unfold ebox at f0
  have e2 : (f == f) = true := by simp
  have e1 : (r == r) = true := by simp
  have t1 : (wordE true true r f == wordE true true r' f') = false := by simp; intro e; have := word_inj h h' e; simp at this; omega
  have t2 : (r == r') = false := by simpa using hn
  go_enter Try.func4, Try.ntmps4
  go_wp2_with fail
  refine (awake_any _).mono ?_
  rintro e w1 ⟨rfl, f1⟩
  replace r0 := r0.keep f1 (fun h => h)
  replace q0 := q0.keep f1 (fun h => h)
  replace f0 := f0.trans f1
  clear f1
  obtain ⟨c0, c1, c2, c3⟩ := ebox_cells r0
  obtain ⟨d0, d1, d2, d3⟩ := ebox_cells q0
  go_wp2_with fail
  refine (enc_ok _ _ _ _ _ h).mono ?_
  rintro e w2 ⟨rfl, f1⟩
  replace r0 := r0.keep f1 (fun h => h)
  replace q0 := q0.keep f1 (fun h => h)
  replace f0 := f0.trans f1
  clear f1 c0 c1 c2 c3 d0 d1 d2 d3
  obtain ⟨c0, c1, c2, c3⟩ := ebox_cells r0
  obtain ⟨d0, d1, d2, d3⟩ := ebox_cells q0
  go_wp2_with fail
  refine (enc_ok _ _ _ _ _ h').mono ?_
  rintro e w3 ⟨rfl, f1⟩
  replace r0 := r0.keep f1 (fun h => h)
  replace q0 := q0.keep f1 (fun h => h)
  replace f0 := f0.trans f1
  clear f1 c0 c1 c2 c3 d0 d1 d2 d3
  obtain ⟨c0, c1, c2, c3⟩ := ebox_cells r0
  obtain ⟨d0, d1, d2, d3⟩ := ebox_cells q0
  go_wp2_with fail
  refine (right_yes _ _ _ _ _ h).mono ?_
  rintro e w4 ⟨rfl, f1⟩
  replace r0 := r0.keep f1 (fun h => h)
  replace q0 := q0.keep f1 (fun h => h)
  replace f0 := f0.trans f1
  clear f1 c0 c1 c2 c3 d0 d1 d2 d3
  obtain ⟨c0, c1, c2, c3⟩ := ebox_cells r0
  obtain ⟨d0, d1, d2, d3⟩ := ebox_cells q0
  go_wp2_with fail
  refine (dec_word_back _ _ _ _ _ h).mono ?_
  rintro e w5 ⟨rfl, f1⟩
  replace r0 := (r0.keep f1 (fun h => h)).alloc (.cells (ebox true true r f) 23)
  replace q0 := (q0.keep f1 (fun h => h)).alloc (.cells (ebox true true r f) 23)
  replace f0 := (f0.trans f1).alloc (.cells (ebox true true r f) 23)
  unfold ebox at f0
  clear f1 c0 c1 c2 c3 d0 d1 d2 d3
  obtain ⟨c0, c1, c2, c3⟩ := ebox_cells r0
  obtain ⟨d0, d1, d2, d3⟩ := ebox_cells q0
  unfold ebox at c0 c1 c2 c3 d0 d1 d2 d3
  go_wp2_with fail
  go_ret
  exact ⟨rfl, f0⟩

set_option maxHeartbeats 1600000 in
theorem back_leaf_f (r f f' : Int) (w : World) (h : rightE true true r f = true) (h' : rightE true true r f' = true) (hn : f ≠ f') :
    Calls Try.prog 4 #[.agg #[.bool true, .bool true, .int .i64 r, .int .i64 f], .agg #[.bool true, .bool true, .int .i64 r, .int .i64 f']] w fun e w' => e = .returned (.bool true) ∧ Fr none' w w' := by
  have f0 := ((Fr.refl none' w).alloc (.cells (ebox true true r f) 23)).alloc (.cells (ebox true true r f') 23)
  have r0 := (row_alloc w (ebox true true r f) 23).alloc (.cells (ebox true true r f') 23)
  have q0 := row_alloc (w.alloc (.cells (ebox true true r f) 23)) (ebox true true r f') 23
  rw [show (w.alloc (.cells (ebox true true r f) 23)).heap.size = w.heap.size + 1 by simp] at q0
  unfold ebox at f0
  have e2 : (f == f) = true := by simp
  have e1 : (r == r) = true := by simp
  have t1 : (wordE true true r f == wordE true true r f') = false := by simp; intro e; have := word_inj h h' e; simp at this; omega
  have t2 : (f == f') = false := by simpa using hn
  go_enter Try.func4, Try.ntmps4
  go_wp2_with fail
  refine (awake_any _).mono ?_
  rintro e w1 ⟨rfl, f1⟩
  replace r0 := r0.keep f1 (fun h => h)
  replace q0 := q0.keep f1 (fun h => h)
  replace f0 := f0.trans f1
  clear f1
  obtain ⟨c0, c1, c2, c3⟩ := ebox_cells r0
  obtain ⟨d0, d1, d2, d3⟩ := ebox_cells q0
  go_wp2_with fail
  refine (enc_ok _ _ _ _ _ h).mono ?_
  rintro e w2 ⟨rfl, f1⟩
  replace r0 := r0.keep f1 (fun h => h)
  replace q0 := q0.keep f1 (fun h => h)
  replace f0 := f0.trans f1
  clear f1 c0 c1 c2 c3 d0 d1 d2 d3
  obtain ⟨c0, c1, c2, c3⟩ := ebox_cells r0
  obtain ⟨d0, d1, d2, d3⟩ := ebox_cells q0
  go_wp2_with fail
  refine (enc_ok _ _ _ _ _ h').mono ?_
  rintro e w3 ⟨rfl, f1⟩
  replace r0 := r0.keep f1 (fun h => h)
  replace q0 := q0.keep f1 (fun h => h)
  replace f0 := f0.trans f1
  clear f1 c0 c1 c2 c3 d0 d1 d2 d3
  obtain ⟨c0, c1, c2, c3⟩ := ebox_cells r0
  obtain ⟨d0, d1, d2, d3⟩ := ebox_cells q0
  go_wp2_with fail
  refine (right_yes _ _ _ _ _ h).mono ?_
  rintro e w4 ⟨rfl, f1⟩
  replace r0 := r0.keep f1 (fun h => h)
  replace q0 := q0.keep f1 (fun h => h)
  replace f0 := f0.trans f1
  clear f1 c0 c1 c2 c3 d0 d1 d2 d3
  obtain ⟨c0, c1, c2, c3⟩ := ebox_cells r0
  obtain ⟨d0, d1, d2, d3⟩ := ebox_cells q0
  go_wp2_with fail
  refine (dec_word_back _ _ _ _ _ h).mono ?_
  rintro e w5 ⟨rfl, f1⟩
  replace r0 := (r0.keep f1 (fun h => h)).alloc (.cells (ebox true true r f) 23)
  replace q0 := (q0.keep f1 (fun h => h)).alloc (.cells (ebox true true r f) 23)
  replace f0 := (f0.trans f1).alloc (.cells (ebox true true r f) 23)
  unfold ebox at f0
  clear f1 c0 c1 c2 c3 d0 d1 d2 d3
  obtain ⟨c0, c1, c2, c3⟩ := ebox_cells r0
  obtain ⟨d0, d1, d2, d3⟩ := ebox_cells q0
  unfold ebox at c0 c1 c2 c3 d0 d1 d2 d3
  go_wp2_with fail
  go_ret
  exact ⟨rfl, f0⟩

theorem back_any (v l v' l' : Bool) (r f r' f' : Int) (w : World) :
    Calls Try.prog 4 #[.agg #[.bool v, .bool l, .int .i64 r, .int .i64 f], .agg #[.bool v', .bool l', .int .i64 r', .int .i64 f']] w fun e w' => e = .returned (.bool true) ∧ Below w.heap.size w w' := by
  have key : Calls Try.prog 4 #[.agg #[.bool v, .bool l, .int .i64 r, .int .i64 f], .agg #[.bool v', .bool l', .int .i64 r', .int .i64 f']] w fun e w' => e = .returned (.bool true) ∧ Fr none' w w' := by
    by_cases h : rightE v l r f = true
    · by_cases h' : rightE v' l' r' f' = true
      · rcases right_cases h with ⟨rfl, rfl, rfl, rfl⟩ | ⟨rfl, rfl, rfl, _, _⟩ | ⟨rfl, rfl, _, _, _, _⟩
        · rcases right_cases h' with ⟨rfl, rfl, rfl, rfl⟩ | ⟨rfl, rfl, rfl, _, _⟩ | ⟨rfl, rfl, _, _, _, _⟩
          · exact back_none_none w h
          · exact back_none_node f' w h h'
          · exact back_none_leaf r' f' w h h'
        · rcases right_cases h' with ⟨rfl, rfl, rfl, rfl⟩ | ⟨rfl, rfl, rfl, _, _⟩ | ⟨rfl, rfl, _, _, _, _⟩
          · exact back_node_none f w h h'
          · by_cases e : f = f'
            · subst e; exact back_node_same f w h
            · exact back_node_f f f' w h h' e
          · exact back_node_leaf f r' f' w h h'
        · rcases right_cases h' with ⟨rfl, rfl, rfl, rfl⟩ | ⟨rfl, rfl, rfl, _, _⟩ | ⟨rfl, rfl, _, _, _, _⟩
          · exact back_leaf_none r f w h h'
          · exact back_leaf_node r f f' w h h'
          · by_cases e : r = r'
            · subst e
              by_cases e' : f = f'
              · subst e'; exact back_leaf_same r f w h
              · exact back_leaf_f r f f' w h h' e'
            · exact back_leaf_r r f r' f' w h h' e
      · have h'' : rightE v' l' r' f' = false := by simpa using h'
        rcases right_cases h with ⟨rfl, rfl, rfl, rfl⟩ | ⟨rfl, rfl, rfl, _, _⟩ | ⟨rfl, rfl, _, _, _, _⟩
        · exact back_none_wrong v' l' r' f' w h h''
        · exact back_node_wrong f v' l' r' f' w h h''
        · exact back_leaf_wrong r f v' l' r' f' w h h''
    · exact back_no v l v' l' r f r' f' w (by simpa using h)
  exact key.mono fun e w' ⟨he, hf⟩ => ⟨he, hf.below (Nat.le_refl _) (fun k h => h.elim)⟩

end Go.Proofs.Ytefjincghkdeiaa
