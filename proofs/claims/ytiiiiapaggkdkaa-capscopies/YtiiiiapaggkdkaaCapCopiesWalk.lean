/-
  The walk of the law CapsCopies: for every cap the law returns true, and nothing old turns.
-/
import Derived.Test.YtiiiiapaggkdkaaCapAwake
import Derived.Test.YtiiiiapaggkdkaaCapLaws
namespace Go.Proofs.Ytiiiiapaggkdkaa
open Go.RowKit

set_option maxRecDepth 100000 in
set_option maxHeartbeats 1600000 in
theorem copies_no (k o r b x g n : Int) (d : Bool) (w : World) (h : refE k ≠ 0) : Calls Try.prog 8 #[.agg #[.int .i64 k, .int .i64 o, .int .i64 r, .int .i64 b, .int .i64 x, .int .i64 g, .int .i64 n, .bool d]] w fun e w' => e = .returned (.bool true) ∧ Fr none' w w' := by
  have f0 := ((Fr.refl none' w).alloc (.cells (cbox k o r b x g n d) 23))
  have rc := row_alloc w (cbox k o r b x g n d) 23
  unfold cbox at f0 rc
  have Dv := derive_any k o r b x g n d
  have e : derC (K.mk k o r b x g n d) = K0 := by unfold derC; rw [if_neg h]
  rw [e] at Dv
  have t1 : (refE k != 0) = true := by simpa using h
  have t2 := refE_null k
  clear e h
  replace Dv : ∀ w, Calls Try.prog 18 #[.agg #[.int .i64 k, .int .i64 o, .int .i64 r, .int .i64 b, .int .i64 x, .int .i64 g, .int .i64 n, .bool d]] w fun e w' => e = .returned (.tuple #[.agg #[.int .i64 0, .int .i64 0, .int .i64 0, .int .i64 0, .int .i64 0, .int .i64 0, .int .i64 0, .bool false], .int .i64 (refE k)]) ∧ Fr none' w w' := Dv
  generalize refE k = z at *
  generalize hz : (k == 0) = y at *
  have t3 : (y == y) = true := by simp
  have heq := fun w => eq_cap 0 0 0 0 0 0 0 0 0 0 0 0 0 0 false false w
  rw [eqK_self] at heq
  go_enter Try.func8, Try.ntmps8
  obtain ⟨rcc0, rcc1, rcc2, rcc3, rcc4, rcc5, rcc6, rcc7⟩ := cbox_cells rc
  go_wp2_with fail
  refine (awake_any _).mono ?_
  rintro e w1 ⟨rfl, f1⟩
  clear rcc0 rcc1 rcc2 rcc3 rcc4 rcc5 rcc6 rcc7
  replace rc := rc.keep f1 (fun h => h)
  replace f0 := f0.trans f1
  clear f1
  obtain ⟨rcc0, rcc1, rcc2, rcc3, rcc4, rcc5, rcc6, rcc7⟩ := cbox_cells rc
  go_wp2_with fail
  refine (Dv _).mono ?_
  rintro e w2 ⟨rfl, f1⟩
  clear rcc0 rcc1 rcc2 rcc3 rcc4 rcc5 rcc6 rcc7
  replace rc := rc.keep f1 (fun h => h)
  replace f0 := f0.trans f1
  clear f1
  have rd := row_alloc w2 (cbox 0 0 0 0 0 0 0 false) 23
  replace rc := rc.alloc (.cells (cbox 0 0 0 0 0 0 0 false) 23)
  replace f0 := f0.alloc (.cells (cbox 0 0 0 0 0 0 0 false) 23)
  unfold cbox at f0 rc rd
  obtain ⟨rcc0, rcc1, rcc2, rcc3, rcc4, rcc5, rcc6, rcc7⟩ := cbox_cells rc
  obtain ⟨rdc0, rdc1, rdc2, rdc3, rdc4, rdc5, rdc6, rdc7⟩ := cbox_cells rd
  go_wp2_with fail
  go_ret
  exact ⟨rfl, f0⟩

set_option maxRecDepth 100000 in
set_option maxHeartbeats 1600000 in
theorem copies_yes (k o r b x g n : Int) (d : Bool) (w : World) (h : refE k = 0) : Calls Try.prog 8 #[.agg #[.int .i64 k, .int .i64 o, .int .i64 r, .int .i64 b, .int .i64 x, .int .i64 g, .int .i64 n, .bool d]] w fun e w' => e = .returned (.bool true) ∧ Fr none' w w' := by
  have f0 := ((Fr.refl none' w).alloc (.cells (cbox k o r b x g n d) 23))
  have rc := row_alloc w (cbox k o r b x g n d) 23
  unfold cbox at f0 rc
  have Dv := derive_any k o r b x g n d
  have e : derC (K.mk k o r b x g n d) = (K.mk k o r b x g n d) := by unfold derC; rw [if_pos h]
  rw [e, h] at Dv
  clear e h
  replace Dv : ∀ w, Calls Try.prog 18 #[.agg #[.int .i64 k, .int .i64 o, .int .i64 r, .int .i64 b, .int .i64 x, .int .i64 g, .int .i64 n, .bool d]] w fun e w' => e = .returned (.tuple #[.agg #[.int .i64 k, .int .i64 o, .int .i64 r, .int .i64 b, .int .i64 x, .int .i64 g, .int .i64 n, .bool d], .int .i64 0]) ∧ Fr none' w w' := Dv
  have heq := fun w => eq_cap k o r b x g n k o r b x g n d d w
  rw [eqK_self] at heq
  go_enter Try.func8, Try.ntmps8
  obtain ⟨rcc0, rcc1, rcc2, rcc3, rcc4, rcc5, rcc6, rcc7⟩ := cbox_cells rc
  go_wp2_with fail
  refine (awake_any _).mono ?_
  rintro e w1 ⟨rfl, f1⟩
  clear rcc0 rcc1 rcc2 rcc3 rcc4 rcc5 rcc6 rcc7
  replace rc := rc.keep f1 (fun h => h)
  replace f0 := f0.trans f1
  clear f1
  obtain ⟨rcc0, rcc1, rcc2, rcc3, rcc4, rcc5, rcc6, rcc7⟩ := cbox_cells rc
  go_wp2_with fail
  refine (Dv _).mono ?_
  rintro e w2 ⟨rfl, f1⟩
  clear rcc0 rcc1 rcc2 rcc3 rcc4 rcc5 rcc6 rcc7
  replace rc := rc.keep f1 (fun h => h)
  replace f0 := f0.trans f1
  clear f1
  have rd := row_alloc w2 (cbox k o r b x g n d) 23
  replace rc := rc.alloc (.cells (cbox k o r b x g n d) 23)
  replace f0 := f0.alloc (.cells (cbox k o r b x g n d) 23)
  unfold cbox at f0 rc rd
  obtain ⟨rcc0, rcc1, rcc2, rcc3, rcc4, rcc5, rcc6, rcc7⟩ := cbox_cells rc
  obtain ⟨rdc0, rdc1, rdc2, rdc3, rdc4, rdc5, rdc6, rdc7⟩ := cbox_cells rd
  go_wp2_with fail
  refine (Dv _).mono ?_
  rintro e w3 ⟨rfl, f1⟩
  clear rcc0 rcc1 rcc2 rcc3 rcc4 rcc5 rcc6 rcc7 rdc0 rdc1 rdc2 rdc3 rdc4 rdc5 rdc6 rdc7
  replace rc := rc.keep f1 (fun h => h)
  replace rd := rd.keep f1 (fun h => h)
  replace f0 := f0.trans f1
  clear f1
  have re := row_alloc w3 (cbox k o r b x g n d) 23
  replace rc := rc.alloc (.cells (cbox k o r b x g n d) 23)
  replace rd := rd.alloc (.cells (cbox k o r b x g n d) 23)
  replace f0 := f0.alloc (.cells (cbox k o r b x g n d) 23)
  unfold cbox at f0 rc rd re
  obtain ⟨rcc0, rcc1, rcc2, rcc3, rcc4, rcc5, rcc6, rcc7⟩ := cbox_cells rc
  obtain ⟨rdc0, rdc1, rdc2, rdc3, rdc4, rdc5, rdc6, rdc7⟩ := cbox_cells rd
  obtain ⟨rec0, rec1, rec2, rec3, rec4, rec5, rec6, rec7⟩ := cbox_cells re
  go_wp2_with fail
  go_ret
  exact ⟨rfl, f0⟩

theorem copies_walk (k o r b x g n : Int) (d : Bool) (w : World) : Calls Try.prog 8 #[.agg #[.int .i64 k, .int .i64 o, .int .i64 r, .int .i64 b, .int .i64 x, .int .i64 g, .int .i64 n, .bool d]] w fun e w' => e = .returned (.bool true) ∧ Fr none' w w' := by
  by_cases h : refE k = 0
  · exact copies_yes k o r b x g n d w h
  · exact copies_no k o r b x g n d w h

theorem copies_any (k o r b x g n : Int) (d : Bool) (w : World) : Calls Try.prog 8 #[.agg #[.int .i64 k, .int .i64 o, .int .i64 r, .int .i64 b, .int .i64 x, .int .i64 g, .int .i64 n, .bool d]] w fun e w' => e = .returned (.bool true) ∧ Below w.heap.size w w' :=
  (copies_walk k o r b x g n d w).mono fun _ _ ⟨he, hf⟩ => ⟨he, hf.below (Nat.le_refl _) (fun _ h => h.elim)⟩

end Go.Proofs.Ytiiiiapaggkdkaa
