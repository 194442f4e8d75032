/-
  The walk of the law IsaAll: for every input the law returns true and nothing old turns.
-/
import Derived.Test.YtcbkjbibngopnaaIsaInts
namespace Go.Proofs.Ytcbkjbibngopnaa
open Go.RowKit

set_option maxHeartbeats 3200000 in
set_option maxRecDepth 100000 in
theorem all_no (x : Nat) (hx : x < 4294967296) (w : World) (h : decOk x = false) :
    Calls Try.prog 6 #[.int .u32 (x : Int)] w fun e w' => e = .returned (.bool true) ∧ Fr none' w w' := by
  have f0 := Fr.refl none' w
  have A1 := fun w => dec_any x w hx
  rw [show dOp x = 0 by simp [dOp, h], show dA x = 0 by simp [dA, h], show dB x = 0 by simp [dB, h], show dC x = 0 by simp [dC, h], show dI x = 0 by simp [dI, h], show dE x = 50 by simp [dE, h]] at A1
  clear h hx
  go_enter Try.func6, Try.ntmps6
  go_wp2_with fail
  refine (awake_any _).mono ?_
  rintro e x1 ⟨rfl, f1⟩
  replace f0 := f0.trans f1
  clear f1
  go_wp2_with fail
  refine (A1 _).mono ?_
  rintro e x2 ⟨rfl, f1⟩
  replace f0 := f0.trans f1
  clear f1
  have s0 := row_alloc x2 (ibox 0 0 0 0 0) 23
  replace f0 := f0.alloc (.cells (ibox 0 0 0 0 0) 23)
  unfold ibox at f0
  obtain ⟨s0c0, s0c1, s0c2, s0c3, s0c4⟩ := ibox_cells s0
  unfold ibox at s0c0 s0c1 s0c2 s0c3 s0c4
  go_wp2_with fail
  go_ret
  exact ⟨rfl, f0⟩

theorem writes_bounds (o a b c i : Int) : -1 ≤ writesI o a b c i ∧ writesI o a b c i ≤ 15 := by
  unfold writesI
  cases h : rightI o a b c i
  · simp
  · have := right_bounds h
    split <;> omega

set_option maxHeartbeats 3200000 in
set_option maxRecDepth 100000 in
theorem all_nil (x : Nat) (hx : x < 4294967296) (w : World) (h : decOk x = true) (hL : readsI (qo x) (qa x) (qb x) (qc x) (qi x) = []) :
    Calls Try.prog 6 #[.int .u32 (x : Int)] w fun e w' => e = .returned (.bool true) ∧ Fr none' w w' := by
  have f0 := Fr.refl none' w
  have A1 := fun w => dec_any x w hx
  rw [show dOp x = qo x by simp [dOp, h], show dA x = qa x by simp [dA, h], show dB x = qb x by simp [dB, h], show dC x = qc x by simp [dC, h], show dI x = qi x by simp [dI, h], show dE x = 0 by simp [dE, h]] at A1
  have A2 := enc_any (qo x) (qa x) (qb x) (qc x) (qi x)
  rw [show encW (qo x) (qa x) (qb x) (qc x) (qi x) = (x : Int) by simp [encW, ok_right h, ok_word h], show encE (qo x) (qa x) (qb x) (qc x) (qi x) = 0 by simp [encE, ok_right h]] at A2
  have A3 := reads_any (qo x) (qa x) (qb x) (qc x) (qi x)
  have A4 := writes_any (qo x) (qa x) (qb x) (qc x) (qi x)
  have wb := writes_bounds (qo x) (qa x) (qb x) (qc x) (qi x)
  rw [hL] at A3
  generalize writesI (qo x) (qa x) (qb x) (qc x) (qi x) = n at *
  clear hL h hx
  generalize qo x = o at *
  generalize qa x = a at *
  generalize qb x = b at *
  generalize qc x = c at *
  generalize qi x = i at *
  have tx : ((x : Int) == (x : Int)) = true := by simp
  have t1 : decide (-1 ≤ n) = true := by simp; omega
  have t2 : decide (n ≤ 15) = true := by simp; omega
  clear wb
  go_enter Try.func6, Try.ntmps6
  go_wp2_with fail
  refine (awake_any _).mono ?_
  rintro e x1 ⟨rfl, f1⟩
  replace f0 := f0.trans f1
  clear f1
  go_wp2_with fail
  refine (A1 _).mono ?_
  rintro e x2 ⟨rfl, f1⟩
  replace f0 := f0.trans f1
  clear f1
  have s0 := row_alloc x2 (ibox o a b c i) 23
  replace f0 := f0.alloc (.cells (ibox o a b c i) 23)
  unfold ibox at f0
  obtain ⟨s0c0, s0c1, s0c2, s0c3, s0c4⟩ := ibox_cells s0
  unfold ibox at s0c0 s0c1 s0c2 s0c3 s0c4
  go_wp2_with fail
  refine (A2 _).mono ?_
  rintro e x3 ⟨rfl, f1⟩
  replace s0 := s0.keep f1 (fun h => h)
  replace f0 := f0.trans f1
  clear f1
  clear s0c0 s0c1 s0c2 s0c3 s0c4
  obtain ⟨s0c0, s0c1, s0c2, s0c3, s0c4⟩ := ibox_cells s0
  go_wp2_with fail
  refine (A3 _).mono ?_
  rintro e y1 ⟨l1, rfl, f1, o1⟩
  replace s0 := s0.keep f1 (fun h => h)
  replace f0 := f0.trans f1
  clear f1 s0c0 s0c1 s0c2 s0c3 s0c4
  obtain ⟨s0c0, s0c1, s0c2, s0c3, s0c4⟩ := ibox_cells s0
  go_wp2_with fail
  refine (A4 _).mono ?_
  rintro e y2 ⟨rfl, f1⟩
  replace o1 := o1.keep0 f1
  replace f0 := f0.trans f1
  clear f1 s0c0 s0c1 s0c2 s0c3 s0c4 s0 A1 A2 A3 A4
  obtain rfl := o1.2 rfl
  clear o1
  go_wp2_with fail
  refine wp_loop_rounds 1 ?_
  rw [rounds_succ]; go_wp2_with fail
  go_ret
  exact ⟨rfl, f0⟩

set_option maxHeartbeats 3200000 in
set_option maxRecDepth 100000 in
theorem all_one (x : Nat) (hx : x < 4294967296) (w : World) (h : decOk x = true) (y : Int) (h0 : 0 ≤ y) (h1 : y ≤ 15) (hL : readsI (qo x) (qa x) (qb x) (qc x) (qi x) = [y]) :
    Calls Try.prog 6 #[.int .u32 (x : Int)] w fun e w' => e = .returned (.bool true) ∧ Fr none' w w' := by
  have f0 := Fr.refl none' w
  have A1 := fun w => dec_any x w hx
  rw [show dOp x = qo x by simp [dOp, h], show dA x = qa x by simp [dA, h], show dB x = qb x by simp [dB, h], show dC x = qc x by simp [dC, h], show dI x = qi x by simp [dI, h], show dE x = 0 by simp [dE, h]] at A1
  have A2 := enc_any (qo x) (qa x) (qb x) (qc x) (qi x)
  rw [show encW (qo x) (qa x) (qb x) (qc x) (qi x) = (x : Int) by simp [encW, ok_right h, ok_word h], show encE (qo x) (qa x) (qb x) (qc x) (qi x) = 0 by simp [encE, ok_right h]] at A2
  have A3 := reads_any (qo x) (qa x) (qb x) (qc x) (qi x)
  have A4 := writes_any (qo x) (qa x) (qb x) (qc x) (qi x)
  have wb := writes_bounds (qo x) (qa x) (qb x) (qc x) (qi x)
  rw [hL] at A3
  generalize writesI (qo x) (qa x) (qb x) (qc x) (qi x) = n at *
  clear hL h hx
  generalize qo x = o at *
  generalize qa x = a at *
  generalize qb x = b at *
  generalize qc x = c at *
  generalize qi x = i at *
  have tx : ((x : Int) == (x : Int)) = true := by simp
  have t1 : decide (-1 ≤ n) = true := by simp; omega
  have t2 : decide (n ≤ 15) = true := by simp; omega
  clear wb
  go_enter Try.func6, Try.ntmps6
  go_wp2_with fail
  refine (awake_any _).mono ?_
  rintro e x1 ⟨rfl, f1⟩
  replace f0 := f0.trans f1
  clear f1
  go_wp2_with fail
  refine (A1 _).mono ?_
  rintro e x2 ⟨rfl, f1⟩
  replace f0 := f0.trans f1
  clear f1
  have s0 := row_alloc x2 (ibox o a b c i) 23
  replace f0 := f0.alloc (.cells (ibox o a b c i) 23)
  unfold ibox at f0
  obtain ⟨s0c0, s0c1, s0c2, s0c3, s0c4⟩ := ibox_cells s0
  unfold ibox at s0c0 s0c1 s0c2 s0c3 s0c4
  go_wp2_with fail
  refine (A2 _).mono ?_
  rintro e x3 ⟨rfl, f1⟩
  replace s0 := s0.keep f1 (fun h => h)
  replace f0 := f0.trans f1
  clear f1
  clear s0c0 s0c1 s0c2 s0c3 s0c4
  obtain ⟨s0c0, s0c1, s0c2, s0c3, s0c4⟩ := ibox_cells s0
  go_wp2_with fail
  refine (A3 _).mono ?_
  rintro e y1 ⟨l1, rfl, f1, o1⟩
  replace s0 := s0.keep f1 (fun h => h)
  replace f0 := f0.trans f1
  clear f1 s0c0 s0c1 s0c2 s0c3 s0c4
  obtain ⟨s0c0, s0c1, s0c2, s0c3, s0c4⟩ := ibox_cells s0
  go_wp2_with fail
  refine (A4 _).mono ?_
  rintro e y2 ⟨rfl, f1⟩
  replace o1 := o1.keep0 f1
  replace f0 := f0.trans f1
  clear f1 s0c0 s0c1 s0c2 s0c3 s0c4 s0 A1 A2 A3 A4
  obtain ⟨g, cap, cur, rfl, _, r, _, _, _, hj⟩ := o1.row (by simp)
  have d0 : y2.cell? ⟨g, 0, none⟩ = some (.int .i64 y) := (r.cell 0).trans (hj 0 y rfl)
  clear o1 r hj
  have u0 : decide (y < 0) = false := by simp; omega
  have u1 : decide (15 < y) = false := by simp; omega
  clear h0 h1
  go_wp2_with fail
  refine wp_loop_rounds 2 ?_
  rw [rounds_succ]; go_wp2_with fail
  go_quiet (fail)
  go_wp2_with fail
  rw [rounds_succ]; go_wp2_with fail
  go_ret
  exact ⟨rfl, f0.drewN _⟩

set_option maxHeartbeats 3200000 in
set_option maxRecDepth 100000 in
theorem all_two (x : Nat) (hx : x < 4294967296) (w : World) (h : decOk x = true) (y z : Int) (h0 : 0 ≤ y) (h1 : y < z) (h2 : z ≤ 15) (hL : readsI (qo x) (qa x) (qb x) (qc x) (qi x) = [y, z]) :
    Calls Try.prog 6 #[.int .u32 (x : Int)] w fun e w' => e = .returned (.bool true) ∧ Fr none' w w' := by
  have f0 := Fr.refl none' w
  have A1 := fun w => dec_any x w hx
  rw [show dOp x = qo x by simp [dOp, h], show dA x = qa x by simp [dA, h], show dB x = qb x by simp [dB, h], show dC x = qc x by simp [dC, h], show dI x = qi x by simp [dI, h], show dE x = 0 by simp [dE, h]] at A1
  have A2 := enc_any (qo x) (qa x) (qb x) (qc x) (qi x)
  rw [show encW (qo x) (qa x) (qb x) (qc x) (qi x) = (x : Int) by simp [encW, ok_right h, ok_word h], show encE (qo x) (qa x) (qb x) (qc x) (qi x) = 0 by simp [encE, ok_right h]] at A2
  have A3 := reads_any (qo x) (qa x) (qb x) (qc x) (qi x)
  have A4 := writes_any (qo x) (qa x) (qb x) (qc x) (qi x)
  have wb := writes_bounds (qo x) (qa x) (qb x) (qc x) (qi x)
  rw [hL] at A3
  generalize writesI (qo x) (qa x) (qb x) (qc x) (qi x) = n at *
  clear hL h hx
  generalize qo x = o at *
  generalize qa x = a at *
  generalize qb x = b at *
  generalize qc x = c at *
  generalize qi x = i at *
  have tx : ((x : Int) == (x : Int)) = true := by simp
  have t1 : decide (-1 ≤ n) = true := by simp; omega
  have t2 : decide (n ≤ 15) = true := by simp; omega
  clear wb
  go_enter Try.func6, Try.ntmps6
  go_wp2_with fail
  refine (awake_any _).mono ?_
  rintro e x1 ⟨rfl, f1⟩
  replace f0 := f0.trans f1
  clear f1
  go_wp2_with fail
  refine (A1 _).mono ?_
  rintro e x2 ⟨rfl, f1⟩
  replace f0 := f0.trans f1
  clear f1
  have s0 := row_alloc x2 (ibox o a b c i) 23
  replace f0 := f0.alloc (.cells (ibox o a b c i) 23)
  unfold ibox at f0
  obtain ⟨s0c0, s0c1, s0c2, s0c3, s0c4⟩ := ibox_cells s0
  unfold ibox at s0c0 s0c1 s0c2 s0c3 s0c4
  go_wp2_with fail
  refine (A2 _).mono ?_
  rintro e x3 ⟨rfl, f1⟩
  replace s0 := s0.keep f1 (fun h => h)
  replace f0 := f0.trans f1
  clear f1
  clear s0c0 s0c1 s0c2 s0c3 s0c4
  obtain ⟨s0c0, s0c1, s0c2, s0c3, s0c4⟩ := ibox_cells s0
  go_wp2_with fail
  refine (A3 _).mono ?_
  rintro e y1 ⟨l1, rfl, f1, o1⟩
  replace s0 := s0.keep f1 (fun h => h)
  replace f0 := f0.trans f1
  clear f1 s0c0 s0c1 s0c2 s0c3 s0c4
  obtain ⟨s0c0, s0c1, s0c2, s0c3, s0c4⟩ := ibox_cells s0
  go_wp2_with fail
  refine (A4 _).mono ?_
  rintro e y2 ⟨rfl, f1⟩
  replace o1 := o1.keep0 f1
  replace f0 := f0.trans f1
  clear f1 s0c0 s0c1 s0c2 s0c3 s0c4 s0 A1 A2 A3 A4
  obtain ⟨g, cap, cur, rfl, _, r, _, _, _, hj⟩ := o1.row (by simp)
  have d0 : y2.cell? ⟨g, 0, none⟩ = some (.int .i64 y) := (r.cell 0).trans (hj 0 y rfl)
  have d1 : y2.cell? ⟨g, 1, none⟩ = some (.int .i64 z) := (r.cell 1).trans (hj 1 z rfl)
  clear o1 r hj
  have u0 : decide (y < 0) = false := by simp; omega
  have u1 : decide (15 < y) = false := by simp; omega
  have u2 : decide (z < 0) = false := by simp; omega
  have u3 : decide (15 < z) = false := by simp; omega
  have u4 : decide (z ≤ y) = false := by simp; omega
  have z0 : IntKind.i64.wrap 0 = 0 := by decide
  clear h0 h1 h2
  go_wp2_with fail
  refine wp_loop_rounds 3 ?_
  rw [rounds_succ]; go_wp2_with fail
  go_quiet (fail)
  go_wp2_with fail
  rw [rounds_succ]; go_wp2_with fail
  go_quiet (fail)
  go_wp2_with fail
  rw [rounds_succ]; go_wp2_with fail
  go_ret
  exact ⟨rfl, f0.drewN _⟩

theorem all_fr (x : Nat) (hx : x < 4294967296) (w : World) :
    Calls Try.prog 6 #[.int .u32 (x : Int)] w fun e w' => e = .returned (.bool true) ∧ Fr none' w w' := by
  cases h : decOk x
  · exact all_no x hx w h
  rcases reads_cases (qo x) (qa x) (qb x) (qc x) (qi x) with e | ⟨y, h0, h1, e⟩ | ⟨y, z, h0, h1, h2, e⟩
  · exact all_nil x hx w h e
  · exact all_one x hx w h y h0 h1 e
  · exact all_two x hx w h y z h0 h1 h2 e

theorem all_any (x : Nat) (hx : x < 4294967296) (w : World) :
    Calls Try.prog 6 #[.int .u32 (x : Int)] w fun e w' => e = .returned (.bool true) ∧ Below w.heap.size w w' :=
  (all_fr x hx w).mono fun _ _ ⟨he, hf⟩ => ⟨he, hf.below (Nat.le_refl _) (fun _ h => h.elim)⟩

end Go.Proofs.Ytcbkjbibngopnaa
