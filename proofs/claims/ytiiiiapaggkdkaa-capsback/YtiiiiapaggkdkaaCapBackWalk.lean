/-
  The walk of the law CapsBack: for every two caps the law returns true, and nothing old turns.
-/
import Derived.Test.YtiiiiapaggkdkaaCapAwake
import Derived.Test.YtiiiiapaggkdkaaCapLaws
namespace Go.Proofs.Ytiiiiapaggkdkaa
open Go.RowKit

theorem dec_word (k o r b x g n : Int) (d : Bool) (w : World) (h : rightC (K.mk k o r b x g n d) = true) : Calls Try.prog 14 #[.int .u64 (wordC (K.mk k o r b x g n d))] w fun e w' => e = .returned (.tuple #[.agg #[.int .i64 k, .int .i64 o, .int .i64 r, .int .i64 b, .int .i64 x, .int .i64 g, .int .i64 n, .bool d], .int .i64 0]) ∧ Fr none' w w' := by
  have hb := word_bounds h
  obtain ⟨e1, e2⟩ := dec_enc h
  obtain ⟨y, hy⟩ := Int.eq_ofNat_of_zero_le hb.1
  have := dec_any y w (by omega)
  rw [← hy, e1, e2] at this
  exact this

set_option maxRecDepth 100000 in
set_option maxHeartbeats 1600000 in
theorem back_no (k o r b x g n : Int) (d : Bool) (k' o' r' b' x' g' n' : Int) (d' : Bool) (w : World) (hr : I64 r) (hr' : I64 r') (h : rightC (K.mk k o r b x g n d) = false) : Calls Try.prog 5 #[.agg #[.int .i64 k, .int .i64 o, .int .i64 r, .int .i64 b, .int .i64 x, .int .i64 g, .int .i64 n, .bool d], .agg #[.int .i64 k', .int .i64 o', .int .i64 r', .int .i64 b', .int .i64 x', .int .i64 g', .int .i64 n', .bool d']] w fun e w' => e = .returned (.bool true) ∧ Fr none' w w' := by
  have f0 := (((Fr.refl none' w).alloc (.cells (cbox k o r b x g n d) 23)).alloc (.cells (cbox k' o' r' b' x' g' n' d') 23))
  have rc := (row_alloc w (cbox k o r b x g n d) 23).alloc (.cells (cbox k' o' r' b' x' g' n' d') 23)
  have rd := row_alloc1 w (.cells (cbox k o r b x g n d) 23) (cbox k' o' r' b' x' g' n' d') 23
  unfold cbox at f0 rc rd
  have E1 := fun w => enc_any k o r b x g n d w hr
  have E2 := fun w => enc_any k' o' r' b' x' g' n' d' w hr'
  have R := fun w => right_any k o r b x g n d w hr
  have e1 : encW (K.mk k o r b x g n d) = 0 := by unfold encW; rw [h]; rfl
  have e2 : encE (K.mk k o r b x g n d) = 141 := by unfold encE; rw [h]; rfl
  rw [e1, e2] at E1
  rw [h] at R
  clear e1 e2 h hr hr'
  generalize encW (K.mk k' o' r' b' x' g' n' d') = y1 at *
  generalize encE (K.mk k' o' r' b' x' g' n' d') = y2 at *
  go_enter Try.func5, Try.ntmps5
  obtain ⟨rcc0, rcc1, rcc2, rcc3, rcc4, rcc5, rcc6, rcc7⟩ := cbox_cells rc
  obtain ⟨rdc0, rdc1, rdc2, rdc3, rdc4, rdc5, rdc6, rdc7⟩ := cbox_cells rd
  go_wp2_with fail
  refine (awake_any _).mono ?_
  rintro e w1 ⟨rfl, f1⟩
  clear rcc0 rcc1 rcc2 rcc3 rcc4 rcc5 rcc6 rcc7 rdc0 rdc1 rdc2 rdc3 rdc4 rdc5 rdc6 rdc7
  replace rc := rc.keep f1 (fun h => h)
  replace rd := rd.keep f1 (fun h => h)
  replace f0 := f0.trans f1
  clear f1
  obtain ⟨rcc0, rcc1, rcc2, rcc3, rcc4, rcc5, rcc6, rcc7⟩ := cbox_cells rc
  obtain ⟨rdc0, rdc1, rdc2, rdc3, rdc4, rdc5, rdc6, rdc7⟩ := cbox_cells rd
  go_wp2_with fail
  refine (E1 _).mono ?_
  rintro e w2 ⟨rfl, f1⟩
  clear rcc0 rcc1 rcc2 rcc3 rcc4 rcc5 rcc6 rcc7 rdc0 rdc1 rdc2 rdc3 rdc4 rdc5 rdc6 rdc7
  replace rc := rc.keep f1 (fun h => h)
  replace rd := rd.keep f1 (fun h => h)
  replace f0 := f0.trans f1
  clear f1
  obtain ⟨rcc0, rcc1, rcc2, rcc3, rcc4, rcc5, rcc6, rcc7⟩ := cbox_cells rc
  obtain ⟨rdc0, rdc1, rdc2, rdc3, rdc4, rdc5, rdc6, rdc7⟩ := cbox_cells rd
  go_wp2_with fail
  refine (E2 _).mono ?_
  rintro e w3 ⟨rfl, f1⟩
  clear rcc0 rcc1 rcc2 rcc3 rcc4 rcc5 rcc6 rcc7 rdc0 rdc1 rdc2 rdc3 rdc4 rdc5 rdc6 rdc7
  replace rc := rc.keep f1 (fun h => h)
  replace rd := rd.keep f1 (fun h => h)
  replace f0 := f0.trans f1
  clear f1
  obtain ⟨rcc0, rcc1, rcc2, rcc3, rcc4, rcc5, rcc6, rcc7⟩ := cbox_cells rc
  obtain ⟨rdc0, rdc1, rdc2, rdc3, rdc4, rdc5, rdc6, rdc7⟩ := cbox_cells rd
  go_wp2_with fail
  refine (R _).mono ?_
  rintro e w4 ⟨rfl, f1⟩
  clear rcc0 rcc1 rcc2 rcc3 rcc4 rcc5 rcc6 rcc7 rdc0 rdc1 rdc2 rdc3 rdc4 rdc5 rdc6 rdc7
  replace rc := rc.keep f1 (fun h => h)
  replace rd := rd.keep f1 (fun h => h)
  replace f0 := f0.trans f1
  clear f1
  obtain ⟨rcc0, rcc1, rcc2, rcc3, rcc4, rcc5, rcc6, rcc7⟩ := cbox_cells rc
  obtain ⟨rdc0, rdc1, rdc2, rdc3, rdc4, rdc5, rdc6, rdc7⟩ := cbox_cells rd
  go_wp2_with fail
  go_ret
  exact ⟨rfl, f0⟩

set_option maxRecDepth 100000 in
set_option maxHeartbeats 1600000 in
theorem back_odd (k o r b x g n : Int) (d : Bool) (k' o' r' b' x' g' n' : Int) (d' : Bool) (w : World) (hr : I64 r) (hr' : I64 r') (h : rightC (K.mk k o r b x g n d) = true) (h' : rightC (K.mk k' o' r' b' x' g' n' d') = false) : Calls Try.prog 5 #[.agg #[.int .i64 k, .int .i64 o, .int .i64 r, .int .i64 b, .int .i64 x, .int .i64 g, .int .i64 n, .bool d], .agg #[.int .i64 k', .int .i64 o', .int .i64 r', .int .i64 b', .int .i64 x', .int .i64 g', .int .i64 n', .bool d']] w fun e w' => e = .returned (.bool true) ∧ Fr none' w w' := by
  have f0 := (((Fr.refl none' w).alloc (.cells (cbox k o r b x g n d) 23)).alloc (.cells (cbox k' o' r' b' x' g' n' d') 23))
  have rc := (row_alloc w (cbox k o r b x g n d) 23).alloc (.cells (cbox k' o' r' b' x' g' n' d') 23)
  have rd := row_alloc1 w (.cells (cbox k o r b x g n d) 23) (cbox k' o' r' b' x' g' n' d') 23
  unfold cbox at f0 rc rd
  have E1 := fun w => enc_any k o r b x g n d w hr
  have E2 := fun w => enc_any k' o' r' b' x' g' n' d' w hr'
  have R := fun w => right_any k o r b x g n d w hr
  have e1 : encW (K.mk k o r b x g n d) = wordC (K.mk k o r b x g n d) := by unfold encW; rw [h]; rfl
  have e2 : encE (K.mk k o r b x g n d) = 0 := by unfold encE; rw [h]; rfl
  have V := fun w => dec_word k o r b x g n d w h
  rw [e1, e2] at E1
  rw [h] at R
  have e3 : encE (K.mk k' o' r' b' x' g' n' d') = 141 := by unfold encE; rw [h']; rfl
  rw [e3] at E2
  clear e1 e2 e3 h h' hr hr'
  generalize encW (K.mk k' o' r' b' x' g' n' d') = y1 at *
  generalize wordC (K.mk k o r b x g n d) = y2 at *
  have heq := fun w => eq_cap k o r b x g n k o r b x g n d d w
  rw [eqK_self] at heq
  go_enter Try.func5, Try.ntmps5
  obtain ⟨rcc0, rcc1, rcc2, rcc3, rcc4, rcc5, rcc6, rcc7⟩ := cbox_cells rc
  obtain ⟨rdc0, rdc1, rdc2, rdc3, rdc4, rdc5, rdc6, rdc7⟩ := cbox_cells rd
  go_wp2_with fail
  refine (awake_any _).mono ?_
  rintro e w1 ⟨rfl, f1⟩
  clear rcc0 rcc1 rcc2 rcc3 rcc4 rcc5 rcc6 rcc7 rdc0 rdc1 rdc2 rdc3 rdc4 rdc5 rdc6 rdc7
  replace rc := rc.keep f1 (fun h => h)
  replace rd := rd.keep f1 (fun h => h)
  replace f0 := f0.trans f1
  clear f1
  obtain ⟨rcc0, rcc1, rcc2, rcc3, rcc4, rcc5, rcc6, rcc7⟩ := cbox_cells rc
  obtain ⟨rdc0, rdc1, rdc2, rdc3, rdc4, rdc5, rdc6, rdc7⟩ := cbox_cells rd
  go_wp2_with fail
  refine (E1 _).mono ?_
  rintro e w2 ⟨rfl, f1⟩
  clear rcc0 rcc1 rcc2 rcc3 rcc4 rcc5 rcc6 rcc7 rdc0 rdc1 rdc2 rdc3 rdc4 rdc5 rdc6 rdc7
  replace rc := rc.keep f1 (fun h => h)
  replace rd := rd.keep f1 (fun h => h)
  replace f0 := f0.trans f1
  clear f1
  obtain ⟨rcc0, rcc1, rcc2, rcc3, rcc4, rcc5, rcc6, rcc7⟩ := cbox_cells rc
  obtain ⟨rdc0, rdc1, rdc2, rdc3, rdc4, rdc5, rdc6, rdc7⟩ := cbox_cells rd
  go_wp2_with fail
  refine (E2 _).mono ?_
  rintro e w3 ⟨rfl, f1⟩
  clear rcc0 rcc1 rcc2 rcc3 rcc4 rcc5 rcc6 rcc7 rdc0 rdc1 rdc2 rdc3 rdc4 rdc5 rdc6 rdc7
  replace rc := rc.keep f1 (fun h => h)
  replace rd := rd.keep f1 (fun h => h)
  replace f0 := f0.trans f1
  clear f1
  obtain ⟨rcc0, rcc1, rcc2, rcc3, rcc4, rcc5, rcc6, rcc7⟩ := cbox_cells rc
  obtain ⟨rdc0, rdc1, rdc2, rdc3, rdc4, rdc5, rdc6, rdc7⟩ := cbox_cells rd
  go_wp2_with fail
  refine (R _).mono ?_
  rintro e w4 ⟨rfl, f1⟩
  clear rcc0 rcc1 rcc2 rcc3 rcc4 rcc5 rcc6 rcc7 rdc0 rdc1 rdc2 rdc3 rdc4 rdc5 rdc6 rdc7
  replace rc := rc.keep f1 (fun h => h)
  replace rd := rd.keep f1 (fun h => h)
  replace f0 := f0.trans f1
  clear f1
  obtain ⟨rcc0, rcc1, rcc2, rcc3, rcc4, rcc5, rcc6, rcc7⟩ := cbox_cells rc
  obtain ⟨rdc0, rdc1, rdc2, rdc3, rdc4, rdc5, rdc6, rdc7⟩ := cbox_cells rd
  go_wp2_with fail
  refine (V _).mono ?_
  rintro e w5 ⟨rfl, f1⟩
  clear rcc0 rcc1 rcc2 rcc3 rcc4 rcc5 rcc6 rcc7 rdc0 rdc1 rdc2 rdc3 rdc4 rdc5 rdc6 rdc7
  replace rc := rc.keep f1 (fun h => h)
  replace rd := rd.keep f1 (fun h => h)
  replace f0 := f0.trans f1
  clear f1
  have re := row_alloc w5 (cbox k o r b x g n d) 23
  replace rc := rc.alloc (.cells (cbox k o r b x g n d) 23)
  replace rd := rd.alloc (.cells (cbox k o r b x g n d) 23)
  replace f0 := f0.alloc (.cells (cbox k o r b x g n d) 23)
  unfold cbox at f0 rc rd re
  obtain ⟨rcc0, rcc1, rcc2, rcc3, rcc4, rcc5, rcc6, rcc7⟩ := cbox_cells rc
  obtain ⟨rdc0, rdc1, rdc2, rdc3, rdc4, rdc5, rdc6, rdc7⟩ := cbox_cells rd
  obtain ⟨rec0, rec1, rec2, rec3, rec4, rec5, rec6, rec7⟩ := cbox_cells re
  go_wp2_with fail
  go_ret
  exact ⟨rfl, f0⟩

set_option maxRecDepth 100000 in
set_option maxHeartbeats 1600000 in
theorem back_both (k o r b x g n : Int) (d : Bool) (k' o' r' b' x' g' n' : Int) (d' : Bool) (w : World) (hr : I64 r) (hr' : I64 r') (h : rightC (K.mk k o r b x g n d) = true) (h' : rightC (K.mk k' o' r' b' x' g' n' d') = true) : Calls Try.prog 5 #[.agg #[.int .i64 k, .int .i64 o, .int .i64 r, .int .i64 b, .int .i64 x, .int .i64 g, .int .i64 n, .bool d], .agg #[.int .i64 k', .int .i64 o', .int .i64 r', .int .i64 b', .int .i64 x', .int .i64 g', .int .i64 n', .bool d']] w fun e w' => e = .returned (.bool true) ∧ Fr none' w w' := by
  have f0 := (((Fr.refl none' w).alloc (.cells (cbox k o r b x g n d) 23)).alloc (.cells (cbox k' o' r' b' x' g' n' d') 23))
  have rc := (row_alloc w (cbox k o r b x g n d) 23).alloc (.cells (cbox k' o' r' b' x' g' n' d') 23)
  have rd := row_alloc1 w (.cells (cbox k o r b x g n d) 23) (cbox k' o' r' b' x' g' n' d') 23
  unfold cbox at f0 rc rd
  have E1 := fun w => enc_any k o r b x g n d w hr
  have E2 := fun w => enc_any k' o' r' b' x' g' n' d' w hr'
  have R := fun w => right_any k o r b x g n d w hr
  have e1 : encW (K.mk k o r b x g n d) = wordC (K.mk k o r b x g n d) := by unfold encW; rw [h]; rfl
  have e2 : encE (K.mk k o r b x g n d) = 0 := by unfold encE; rw [h]; rfl
  have V := fun w => dec_word k o r b x g n d w h
  rw [e1, e2] at E1
  rw [h] at R
  have e3 : encE (K.mk k' o' r' b' x' g' n' d') = 0 := by unfold encE; rw [h']; rfl
  have e4 : encW (K.mk k' o' r' b' x' g' n' d') = wordC (K.mk k' o' r' b' x' g' n' d') := by unfold encW; rw [h']; rfl
  rw [e3, e4] at E2
  have hw := word_eq h h'
  clear e1 e2 e3 e4 h h' hr hr'
  generalize wordC (K.mk k' o' r' b' x' g' n' d') = y1 at *
  generalize wordC (K.mk k o r b x g n d) = y2 at *
  have heq := fun w => eq_cap k o r b x g n k o r b x g n d d w
  rw [eqK_self] at heq
  have heq' := fun w => eq_cap k o r b x g n k' o' r' b' x' g' n' d d' w
  generalize eqK (K.mk k o r b x g n d) (K.mk k' o' r' b' x' g' n' d') = z at *
  have hz : (z == z) = true := by simp
  go_enter Try.func5, Try.ntmps5
  obtain ⟨rcc0, rcc1, rcc2, rcc3, rcc4, rcc5, rcc6, rcc7⟩ := cbox_cells rc
  obtain ⟨rdc0, rdc1, rdc2, rdc3, rdc4, rdc5, rdc6, rdc7⟩ := cbox_cells rd
  go_wp2_with fail
  refine (awake_any _).mono ?_
  rintro e w1 ⟨rfl, f1⟩
  clear rcc0 rcc1 rcc2 rcc3 rcc4 rcc5 rcc6 rcc7 rdc0 rdc1 rdc2 rdc3 rdc4 rdc5 rdc6 rdc7
  replace rc := rc.keep f1 (fun h => h)
  replace rd := rd.keep f1 (fun h => h)
  replace f0 := f0.trans f1
  clear f1
  obtain ⟨rcc0, rcc1, rcc2, rcc3, rcc4, rcc5, rcc6, rcc7⟩ := cbox_cells rc
  obtain ⟨rdc0, rdc1, rdc2, rdc3, rdc4, rdc5, rdc6, rdc7⟩ := cbox_cells rd
  go_wp2_with fail
  refine (E1 _).mono ?_
  rintro e w2 ⟨rfl, f1⟩
  clear rcc0 rcc1 rcc2 rcc3 rcc4 rcc5 rcc6 rcc7 rdc0 rdc1 rdc2 rdc3 rdc4 rdc5 rdc6 rdc7
  replace rc := rc.keep f1 (fun h => h)
  replace rd := rd.keep f1 (fun h => h)
  replace f0 := f0.trans f1
  clear f1
  obtain ⟨rcc0, rcc1, rcc2, rcc3, rcc4, rcc5, rcc6, rcc7⟩ := cbox_cells rc
  obtain ⟨rdc0, rdc1, rdc2, rdc3, rdc4, rdc5, rdc6, rdc7⟩ := cbox_cells rd
  go_wp2_with fail
  refine (E2 _).mono ?_
  rintro e w3 ⟨rfl, f1⟩
  clear rcc0 rcc1 rcc2 rcc3 rcc4 rcc5 rcc6 rcc7 rdc0 rdc1 rdc2 rdc3 rdc4 rdc5 rdc6 rdc7
  replace rc := rc.keep f1 (fun h => h)
  replace rd := rd.keep f1 (fun h => h)
  replace f0 := f0.trans f1
  clear f1
  obtain ⟨rcc0, rcc1, rcc2, rcc3, rcc4, rcc5, rcc6, rcc7⟩ := cbox_cells rc
  obtain ⟨rdc0, rdc1, rdc2, rdc3, rdc4, rdc5, rdc6, rdc7⟩ := cbox_cells rd
  go_wp2_with fail
  refine (R _).mono ?_
  rintro e w4 ⟨rfl, f1⟩
  clear rcc0 rcc1 rcc2 rcc3 rcc4 rcc5 rcc6 rcc7 rdc0 rdc1 rdc2 rdc3 rdc4 rdc5 rdc6 rdc7
  replace rc := rc.keep f1 (fun h => h)
  replace rd := rd.keep f1 (fun h => h)
  replace f0 := f0.trans f1
  clear f1
  obtain ⟨rcc0, rcc1, rcc2, rcc3, rcc4, rcc5, rcc6, rcc7⟩ := cbox_cells rc
  obtain ⟨rdc0, rdc1, rdc2, rdc3, rdc4, rdc5, rdc6, rdc7⟩ := cbox_cells rd
  go_wp2_with fail
  refine (V _).mono ?_
  rintro e w5 ⟨rfl, f1⟩
  clear rcc0 rcc1 rcc2 rcc3 rcc4 rcc5 rcc6 rcc7 rdc0 rdc1 rdc2 rdc3 rdc4 rdc5 rdc6 rdc7
  replace rc := rc.keep f1 (fun h => h)
  replace rd := rd.keep f1 (fun h => h)
  replace f0 := f0.trans f1
  clear f1
  have re := row_alloc w5 (cbox k o r b x g n d) 23
  replace rc := rc.alloc (.cells (cbox k o r b x g n d) 23)
  replace rd := rd.alloc (.cells (cbox k o r b x g n d) 23)
  replace f0 := f0.alloc (.cells (cbox k o r b x g n d) 23)
  unfold cbox at f0 rc rd re
  obtain ⟨rcc0, rcc1, rcc2, rcc3, rcc4, rcc5, rcc6, rcc7⟩ := cbox_cells rc
  obtain ⟨rdc0, rdc1, rdc2, rdc3, rdc4, rdc5, rdc6, rdc7⟩ := cbox_cells rd
  obtain ⟨rec0, rec1, rec2, rec3, rec4, rec5, rec6, rec7⟩ := cbox_cells re
  go_wp2_with fail
  go_ret
  exact ⟨rfl, f0⟩

theorem back_walk (k o r b x g n : Int) (d : Bool) (k' o' r' b' x' g' n' : Int) (d' : Bool) (w : World) (hr : I64 r) (hr' : I64 r') : Calls Try.prog 5 #[.agg #[.int .i64 k, .int .i64 o, .int .i64 r, .int .i64 b, .int .i64 x, .int .i64 g, .int .i64 n, .bool d], .agg #[.int .i64 k', .int .i64 o', .int .i64 r', .int .i64 b', .int .i64 x', .int .i64 g', .int .i64 n', .bool d']] w fun e w' => e = .returned (.bool true) ∧ Fr none' w w' := by
  cases h : rightC (K.mk k o r b x g n d)
  · exact back_no k o r b x g n d k' o' r' b' x' g' n' d' w hr hr' h
  · cases h' : rightC (K.mk k' o' r' b' x' g' n' d')
    · exact back_odd k o r b x g n d k' o' r' b' x' g' n' d' w hr hr' h h'
    · exact back_both k o r b x g n d k' o' r' b' x' g' n' d' w hr hr' h h'

theorem back_any (k o r b x g n : Int) (d : Bool) (k' o' r' b' x' g' n' : Int) (d' : Bool) (hr : I64 r) (hr' : I64 r') (w : World) : Calls Try.prog 5 #[.agg #[.int .i64 k, .int .i64 o, .int .i64 r, .int .i64 b, .int .i64 x, .int .i64 g, .int .i64 n, .bool d], .agg #[.int .i64 k', .int .i64 o', .int .i64 r', .int .i64 b', .int .i64 x', .int .i64 g', .int .i64 n', .bool d']] w fun e w' => e = .returned (.bool true) ∧ Below w.heap.size w w' :=
  (back_walk k o r b x g n d k' o' r' b' x' g' n' d' w hr hr').mono fun _ _ ⟨he, hf⟩ => ⟨he, hf.below (Nat.le_refl _) (fun _ h => h.elim)⟩

end Go.Proofs.Ytiiiiapaggkdkaa
