/-
  Contract of the document's Mint (package viceroyref11). No statement is proved here.
-/
import Derived.Test.YtiiiiapaggkdkaaCapRMint
import Derived.Deep.Cut
namespace Go.Proofs.Ytiiiiapaggkdkaa
open Go.RowKit

set_option maxRecDepth 100000 in
set_option maxHeartbeats 1600000 in
theorem rmint_g4 (o r b x g n : Int) (d : Bool) (q y g' n' : Int) (k2 o2 r2 b2 x2 g2 n2 : Int) (d2 : Bool) (w : World)
    (Dv : ∀ w, Calls Try.prog 19 #[.agg #[.int .i64 4, .int .i64 o, .int .i64 r, .int .i64 b, .int .i64 x, .int .i64 g, .int .i64 n, .bool d]] w fun e w' => e = .returned (.tuple #[.agg #[.int .i64 4, .int .i64 o, .int .i64 r, .int .i64 b, .int .i64 x, .int .i64 g, .int .i64 n, .bool d], .int .i64 0]) ∧ Fr none' w w')
    (M : ∀ w, Calls Try.prog 17 #[.agg #[.int .i64 4, .int .i64 o, .int .i64 r, .int .i64 b, .int .i64 x, .int .i64 g, .int .i64 n, .bool d], .int .i64 q] w fun e w' => e = .returned (.agg #[.int .i64 k2, .int .i64 o2, .int .i64 r2, .int .i64 b2, .int .i64 x2, .int .i64 g2, .int .i64 n2, .bool d2]) ∧ Fr none' w w') (t : (y != 0) = true) (t1 : (b != 0) = false) (t2 : decide (y < 0) = false) (t3 : decide (1048576 ≤ y) = false) :
    Calls Try.prog 21 #[.agg #[.int .i64 4, .int .i64 o, .int .i64 r, .int .i64 b, .int .i64 x, .int .i64 g, .int .i64 n, .bool d], .int .i64 q, .int .i64 y, .int .i64 g', .int .i64 n'] w fun e w' => e = .returned (.tuple #[.agg #[.int .i64 k2, .int .i64 o2, .int .i64 r2, .int .i64 y, .int .i64 x2, .int .i64 g2, .int .i64 n2, .bool d2], .int .i64 0]) ∧ Fr none' w w' := by
  have f0 := ((Fr.refl none' w).alloc (.cells (cbox 4 o r b x g n d) 23)).alloc (.cells (cbox 0 0 0 0 0 0 0 false) 23)
  have p0 := (row_alloc w (cbox 4 o r b x g n d) 23).alloc (.cells (cbox 0 0 0 0 0 0 0 false) 23)
  have r0 := row_alloc1 w (.cells (cbox 4 o r b x g n d) 23) (cbox 0 0 0 0 0 0 0 false) 23
  unfold cbox at f0
  go_enter Try.func21, Try.ntmps21
  go_wp2_with fail
  refine (Dv _).mono ?_
  rintro e w1 ⟨rfl, f1⟩
  replace f0 := f0.trans f1
  replace r0 := r0.keep f1 (fun h => h)
  replace p0 := p0.keep f1 (fun h => h)
  clear f1
  have q0 := row_alloc w1 (cbox 4 o r b x g n d) 23
  have HN : Hid (w1.heap.size ≠ w.heap.size + 1 ∧ w1.heap.size ≠ w.heap.size ∧ w.heap.size ≤ w1.heap.size) := by have := r0.lt; exact ⟨by omega, by omega, by omega⟩
  replace r0 := r0.alloc (.cells (cbox 4 o r b x g n d) 23)
  replace p0 := p0.alloc (.cells (cbox 4 o r b x g n d) 23)
  replace f0 := f0.alloc (.cells (cbox 4 o r b x g n d) 23)
  unfold cbox at f0
  go_wp2_with fail
  refine (M _).mono ?_
  rintro e w2 ⟨rfl, f1⟩
  replace q0 := q0.keep f1 (fun h => h)
  replace r0 := r0.keep f1 (fun h => h)
  replace p0 := p0.keep f1 (fun h => h)
  replace f0 := f0.trans f1
  clear f1
  have hne := HN.out.1
  have hne' := hne.symm
  have hnf := HN.out.2.1
  have hnf' := hnf.symm
  obtain ⟨c0, c1, c2, c3, c4, c5, c6, c7⟩ := cbox_cells q0
  obtain ⟨l0, l1, l2, l3, l4, l5, l6, l7⟩ := cbox_frozen q0
  obtain ⟨d0, d1, d2', d3, d4, d5, d6, d7⟩ := cbox_cells r0
  obtain ⟨m0, m1, m2, m3, m4, m5, m6, m7⟩ := cbox_frozen r0
  obtain ⟨e0, e1, e2, e3, e4, e5, e6, e7⟩ := cbox_cells p0
  go_upto_if 38 with fail
  clear c0 c1 c2 c3 c4 c5 c6 c7 l0 l1 l2 l3 l4 l5 l6 l7 d0 d1 d2' d3 d4 d5 d6 d7 m0 m1 m2 m3 m4 m5 m6 m7 e0 e1 e2 e3 e4 e5 e6 e7
  replace q0 : Row ((((((((w2.setCell ⟨w1.heap.size, 0, none⟩ (.int .i64 k2)).setCell ⟨w1.heap.size, 1, none⟩ (.int .i64 o2)).setCell ⟨w1.heap.size, 2, none⟩ (.int .i64 r2)).setCell ⟨w1.heap.size, 3, none⟩ (.int .i64 b2)).setCell ⟨w1.heap.size, 4, none⟩ (.int .i64 x2)).setCell ⟨w1.heap.size, 5, none⟩ (.int .i64 g2)).setCell ⟨w1.heap.size, 6, none⟩ (.int .i64 n2)).setCell ⟨w1.heap.size, 7, none⟩ (.bool d2)) w1.heap.size (cbox k2 o2 r2 b2 x2 g2 n2 d2) 23 := cbox_set q0
  replace r0 : Row ((((((((w2.setCell ⟨w1.heap.size, 0, none⟩ (.int .i64 k2)).setCell ⟨w1.heap.size, 1, none⟩ (.int .i64 o2)).setCell ⟨w1.heap.size, 2, none⟩ (.int .i64 r2)).setCell ⟨w1.heap.size, 3, none⟩ (.int .i64 b2)).setCell ⟨w1.heap.size, 4, none⟩ (.int .i64 x2)).setCell ⟨w1.heap.size, 5, none⟩ (.int .i64 g2)).setCell ⟨w1.heap.size, 6, none⟩ (.int .i64 n2)).setCell ⟨w1.heap.size, 7, none⟩ (.bool d2)) (w.heap.size + 1) (cbox 0 0 0 0 0 0 0 false) 23 := cput_other r0 HN.out.1 k2 o2 r2 b2 x2 g2 n2 d2
  replace p0 : Row ((((((((w2.setCell ⟨w1.heap.size, 0, none⟩ (.int .i64 k2)).setCell ⟨w1.heap.size, 1, none⟩ (.int .i64 o2)).setCell ⟨w1.heap.size, 2, none⟩ (.int .i64 r2)).setCell ⟨w1.heap.size, 3, none⟩ (.int .i64 b2)).setCell ⟨w1.heap.size, 4, none⟩ (.int .i64 x2)).setCell ⟨w1.heap.size, 5, none⟩ (.int .i64 g2)).setCell ⟨w1.heap.size, 6, none⟩ (.int .i64 n2)).setCell ⟨w1.heap.size, 7, none⟩ (.bool d2)) w.heap.size (cbox 4 o r b x g n d) 23 := cput_other p0 HN.out.2.1 k2 o2 r2 b2 x2 g2 n2 d2
  replace f0 : Fr none' w ((((((((w2.setCell ⟨w1.heap.size, 0, none⟩ (.int .i64 k2)).setCell ⟨w1.heap.size, 1, none⟩ (.int .i64 o2)).setCell ⟨w1.heap.size, 2, none⟩ (.int .i64 r2)).setCell ⟨w1.heap.size, 3, none⟩ (.int .i64 b2)).setCell ⟨w1.heap.size, 4, none⟩ (.int .i64 x2)).setCell ⟨w1.heap.size, 5, none⟩ (.int .i64 g2)).setCell ⟨w1.heap.size, 6, none⟩ (.int .i64 n2)).setCell ⟨w1.heap.size, 7, none⟩ (.bool d2)) := cbox_fr k2 o2 r2 b2 x2 g2 n2 d2 f0 (Or.inl HN.out.2.2)
  obtain ⟨W, hW⟩ : ∃ W, W = ((((((((w2.setCell ⟨w1.heap.size, 0, none⟩ (.int .i64 k2)).setCell ⟨w1.heap.size, 1, none⟩ (.int .i64 o2)).setCell ⟨w1.heap.size, 2, none⟩ (.int .i64 r2)).setCell ⟨w1.heap.size, 3, none⟩ (.int .i64 b2)).setCell ⟨w1.heap.size, 4, none⟩ (.int .i64 x2)).setCell ⟨w1.heap.size, 5, none⟩ (.int .i64 g2)).setCell ⟨w1.heap.size, 6, none⟩ (.int .i64 n2)).setCell ⟨w1.heap.size, 7, none⟩ (.bool d2)) := ⟨_, rfl⟩
  rw [← hW] at q0 r0 p0 f0 ⊢
  clear hW
  obtain ⟨c0, c1, c2, c3, c4, c5, c6, c7⟩ := cbox_cells q0
  obtain ⟨l0, l1, l2, l3, l4, l5, l6, l7⟩ := cbox_frozen q0
  obtain ⟨d0, d1, d2', d3, d4, d5, d6, d7⟩ := cbox_cells r0
  obtain ⟨m0, m1, m2, m3, m4, m5, m6, m7⟩ := cbox_frozen r0
  obtain ⟨e0, e1, e2, e3, e4, e5, e6, e7⟩ := cbox_cells p0
  go_wp2_with (fail)
  clear hne hne' hnf hnf' c0 c1 c2 c3 c4 c5 c6 c7 l0 l1 l2 l3 l4 l5 l6 l7 d0 d1 d2' d3 d4 d5 d6 d7 m0 m1 m2 m3 m4 m5 m6 m7 e0 e1 e2 e3 e4 e5 e6 e7
  replace f0 := f0.setCell (p := ⟨w1.heap.size, 3, none⟩) (Or.inl HN.out.2.2) (.int .i64 y)
  replace r0 := r0.setCell_other (p := ⟨w1.heap.size, 3, none⟩) HN.out.1 (.int .i64 y)
  refine bodyPost_ret (ret_cap_tmp rfl rfl (cbox_set r0) rfl) rfl ?_
  exact ⟨rfl, cbox_fr _ _ _ _ _ _ _ _ f0 (Or.inl (Nat.le_succ _))⟩

set_option maxRecDepth 100000 in
set_option maxHeartbeats 1600000 in
theorem rmint_g5 (o r b x g n : Int) (d : Bool) (q y g' n' : Int) (k2 o2 r2 b2 x2 g2 n2 : Int) (d2 : Bool) (w : World)
    (Dv : ∀ w, Calls Try.prog 19 #[.agg #[.int .i64 5, .int .i64 o, .int .i64 r, .int .i64 b, .int .i64 x, .int .i64 g, .int .i64 n, .bool d]] w fun e w' => e = .returned (.tuple #[.agg #[.int .i64 5, .int .i64 o, .int .i64 r, .int .i64 b, .int .i64 x, .int .i64 g, .int .i64 n, .bool d], .int .i64 0]) ∧ Fr none' w w')
    (M : ∀ w, Calls Try.prog 17 #[.agg #[.int .i64 5, .int .i64 o, .int .i64 r, .int .i64 b, .int .i64 x, .int .i64 g, .int .i64 n, .bool d], .int .i64 q] w fun e w' => e = .returned (.agg #[.int .i64 k2, .int .i64 o2, .int .i64 r2, .int .i64 b2, .int .i64 x2, .int .i64 g2, .int .i64 n2, .bool d2]) ∧ Fr none' w w') (t : (y != 0) = true) (t1 : (b != 0) = false) (t2 : decide (y < 0) = false) (t3 : decide (1048576 ≤ y) = false) :
    Calls Try.prog 21 #[.agg #[.int .i64 5, .int .i64 o, .int .i64 r, .int .i64 b, .int .i64 x, .int .i64 g, .int .i64 n, .bool d], .int .i64 q, .int .i64 y, .int .i64 g', .int .i64 n'] w fun e w' => e = .returned (.tuple #[.agg #[.int .i64 k2, .int .i64 o2, .int .i64 r2, .int .i64 y, .int .i64 x2, .int .i64 g2, .int .i64 n2, .bool d2], .int .i64 0]) ∧ Fr none' w w' := by
  have f0 := ((Fr.refl none' w).alloc (.cells (cbox 5 o r b x g n d) 23)).alloc (.cells (cbox 0 0 0 0 0 0 0 false) 23)
  have p0 := (row_alloc w (cbox 5 o r b x g n d) 23).alloc (.cells (cbox 0 0 0 0 0 0 0 false) 23)
  have r0 := row_alloc1 w (.cells (cbox 5 o r b x g n d) 23) (cbox 0 0 0 0 0 0 0 false) 23
  unfold cbox at f0
  go_enter Try.func21, Try.ntmps21
  go_wp2_with fail
  refine (Dv _).mono ?_
  rintro e w1 ⟨rfl, f1⟩
  replace f0 := f0.trans f1
  replace r0 := r0.keep f1 (fun h => h)
  replace p0 := p0.keep f1 (fun h => h)
  clear f1
  have q0 := row_alloc w1 (cbox 5 o r b x g n d) 23
  have HN : Hid (w1.heap.size ≠ w.heap.size + 1 ∧ w1.heap.size ≠ w.heap.size ∧ w.heap.size ≤ w1.heap.size) := by have := r0.lt; exact ⟨by omega, by omega, by omega⟩
  replace r0 := r0.alloc (.cells (cbox 5 o r b x g n d) 23)
  replace p0 := p0.alloc (.cells (cbox 5 o r b x g n d) 23)
  replace f0 := f0.alloc (.cells (cbox 5 o r b x g n d) 23)
  unfold cbox at f0
  go_wp2_with fail
  refine (M _).mono ?_
  rintro e w2 ⟨rfl, f1⟩
  replace q0 := q0.keep f1 (fun h => h)
  replace r0 := r0.keep f1 (fun h => h)
  replace p0 := p0.keep f1 (fun h => h)
  replace f0 := f0.trans f1
  clear f1
  have hne := HN.out.1
  have hne' := hne.symm
  have hnf := HN.out.2.1
  have hnf' := hnf.symm
  obtain ⟨c0, c1, c2, c3, c4, c5, c6, c7⟩ := cbox_cells q0
  obtain ⟨l0, l1, l2, l3, l4, l5, l6, l7⟩ := cbox_frozen q0
  obtain ⟨d0, d1, d2', d3, d4, d5, d6, d7⟩ := cbox_cells r0
  obtain ⟨m0, m1, m2, m3, m4, m5, m6, m7⟩ := cbox_frozen r0
  obtain ⟨e0, e1, e2, e3, e4, e5, e6, e7⟩ := cbox_cells p0
  go_upto_if 38 with fail
  clear c0 c1 c2 c3 c4 c5 c6 c7 l0 l1 l2 l3 l4 l5 l6 l7 d0 d1 d2' d3 d4 d5 d6 d7 m0 m1 m2 m3 m4 m5 m6 m7 e0 e1 e2 e3 e4 e5 e6 e7
  replace q0 : Row ((((((((w2.setCell ⟨w1.heap.size, 0, none⟩ (.int .i64 k2)).setCell ⟨w1.heap.size, 1, none⟩ (.int .i64 o2)).setCell ⟨w1.heap.size, 2, none⟩ (.int .i64 r2)).setCell ⟨w1.heap.size, 3, none⟩ (.int .i64 b2)).setCell ⟨w1.heap.size, 4, none⟩ (.int .i64 x2)).setCell ⟨w1.heap.size, 5, none⟩ (.int .i64 g2)).setCell ⟨w1.heap.size, 6, none⟩ (.int .i64 n2)).setCell ⟨w1.heap.size, 7, none⟩ (.bool d2)) w1.heap.size (cbox k2 o2 r2 b2 x2 g2 n2 d2) 23 := cbox_set q0
  replace r0 : Row ((((((((w2.setCell ⟨w1.heap.size, 0, none⟩ (.int .i64 k2)).setCell ⟨w1.heap.size, 1, none⟩ (.int .i64 o2)).setCell ⟨w1.heap.size, 2, none⟩ (.int .i64 r2)).setCell ⟨w1.heap.size, 3, none⟩ (.int .i64 b2)).setCell ⟨w1.heap.size, 4, none⟩ (.int .i64 x2)).setCell ⟨w1.heap.size, 5, none⟩ (.int .i64 g2)).setCell ⟨w1.heap.size, 6, none⟩ (.int .i64 n2)).setCell ⟨w1.heap.size, 7, none⟩ (.bool d2)) (w.heap.size + 1) (cbox 0 0 0 0 0 0 0 false) 23 := cput_other r0 HN.out.1 k2 o2 r2 b2 x2 g2 n2 d2
  replace p0 : Row ((((((((w2.setCell ⟨w1.heap.size, 0, none⟩ (.int .i64 k2)).setCell ⟨w1.heap.size, 1, none⟩ (.int .i64 o2)).setCell ⟨w1.heap.size, 2, none⟩ (.int .i64 r2)).setCell ⟨w1.heap.size, 3, none⟩ (.int .i64 b2)).setCell ⟨w1.heap.size, 4, none⟩ (.int .i64 x2)).setCell ⟨w1.heap.size, 5, none⟩ (.int .i64 g2)).setCell ⟨w1.heap.size, 6, none⟩ (.int .i64 n2)).setCell ⟨w1.heap.size, 7, none⟩ (.bool d2)) w.heap.size (cbox 5 o r b x g n d) 23 := cput_other p0 HN.out.2.1 k2 o2 r2 b2 x2 g2 n2 d2
  replace f0 : Fr none' w ((((((((w2.setCell ⟨w1.heap.size, 0, none⟩ (.int .i64 k2)).setCell ⟨w1.heap.size, 1, none⟩ (.int .i64 o2)).setCell ⟨w1.heap.size, 2, none⟩ (.int .i64 r2)).setCell ⟨w1.heap.size, 3, none⟩ (.int .i64 b2)).setCell ⟨w1.heap.size, 4, none⟩ (.int .i64 x2)).setCell ⟨w1.heap.size, 5, none⟩ (.int .i64 g2)).setCell ⟨w1.heap.size, 6, none⟩ (.int .i64 n2)).setCell ⟨w1.heap.size, 7, none⟩ (.bool d2)) := cbox_fr k2 o2 r2 b2 x2 g2 n2 d2 f0 (Or.inl HN.out.2.2)
  obtain ⟨W, hW⟩ : ∃ W, W = ((((((((w2.setCell ⟨w1.heap.size, 0, none⟩ (.int .i64 k2)).setCell ⟨w1.heap.size, 1, none⟩ (.int .i64 o2)).setCell ⟨w1.heap.size, 2, none⟩ (.int .i64 r2)).setCell ⟨w1.heap.size, 3, none⟩ (.int .i64 b2)).setCell ⟨w1.heap.size, 4, none⟩ (.int .i64 x2)).setCell ⟨w1.heap.size, 5, none⟩ (.int .i64 g2)).setCell ⟨w1.heap.size, 6, none⟩ (.int .i64 n2)).setCell ⟨w1.heap.size, 7, none⟩ (.bool d2)) := ⟨_, rfl⟩
  rw [← hW] at q0 r0 p0 f0 ⊢
  clear hW
  obtain ⟨c0, c1, c2, c3, c4, c5, c6, c7⟩ := cbox_cells q0
  obtain ⟨l0, l1, l2, l3, l4, l5, l6, l7⟩ := cbox_frozen q0
  obtain ⟨d0, d1, d2', d3, d4, d5, d6, d7⟩ := cbox_cells r0
  obtain ⟨m0, m1, m2, m3, m4, m5, m6, m7⟩ := cbox_frozen r0
  obtain ⟨e0, e1, e2, e3, e4, e5, e6, e7⟩ := cbox_cells p0
  go_wp2_with (fail)
  clear hne hne' hnf hnf' c0 c1 c2 c3 c4 c5 c6 c7 l0 l1 l2 l3 l4 l5 l6 l7 d0 d1 d2' d3 d4 d5 d6 d7 m0 m1 m2 m3 m4 m5 m6 m7 e0 e1 e2 e3 e4 e5 e6 e7
  replace f0 := f0.setCell (p := ⟨w1.heap.size, 3, none⟩) (Or.inl HN.out.2.2) (.int .i64 y)
  replace r0 := r0.setCell_other (p := ⟨w1.heap.size, 3, none⟩) HN.out.1 (.int .i64 y)
  refine bodyPost_ret (ret_cap_tmp rfl rfl (cbox_set r0) rfl) rfl ?_
  exact ⟨rfl, cbox_fr _ _ _ _ _ _ _ _ f0 (Or.inl (Nat.le_succ _))⟩

set_option maxRecDepth 100000 in
set_option maxHeartbeats 1600000 in
theorem rmint_gy (o r b x g n : Int) (d : Bool) (q y g' n' : Int) (k2 o2 r2 b2 x2 g2 n2 : Int) (d2 : Bool) (w : World)
    (Dv : ∀ w, Calls Try.prog 19 #[.agg #[.int .i64 2, .int .i64 o, .int .i64 r, .int .i64 b, .int .i64 x, .int .i64 g, .int .i64 n, .bool d]] w fun e w' => e = .returned (.tuple #[.agg #[.int .i64 2, .int .i64 o, .int .i64 r, .int .i64 b, .int .i64 x, .int .i64 g, .int .i64 n, .bool d], .int .i64 0]) ∧ Fr none' w w')
    (M : ∀ w, Calls Try.prog 17 #[.agg #[.int .i64 2, .int .i64 o, .int .i64 r, .int .i64 b, .int .i64 x, .int .i64 g, .int .i64 n, .bool d], .int .i64 q] w fun e w' => e = .returned (.agg #[.int .i64 k2, .int .i64 o2, .int .i64 r2, .int .i64 b2, .int .i64 x2, .int .i64 g2, .int .i64 n2, .bool d2]) ∧ Fr none' w w') (G : ∀ w, Calls Try.prog 27 #[.int .i64 g', .int .i64 n'] w fun e w' => e = .returned (.bool true) ∧ w' = w) :
    Calls Try.prog 21 #[.agg #[.int .i64 2, .int .i64 o, .int .i64 r, .int .i64 b, .int .i64 x, .int .i64 g, .int .i64 n, .bool d], .int .i64 q, .int .i64 y, .int .i64 g', .int .i64 n'] w fun e w' => e = .returned (.tuple #[.agg #[.int .i64 k2, .int .i64 o2, .int .i64 r2, .int .i64 b2, .int .i64 x2, .int .i64 g', .int .i64 n', .bool d2], .int .i64 0]) ∧ Fr none' w w' := by
  have f0 := ((Fr.refl none' w).alloc (.cells (cbox 2 o r b x g n d) 23)).alloc (.cells (cbox 0 0 0 0 0 0 0 false) 23)
  have p0 := (row_alloc w (cbox 2 o r b x g n d) 23).alloc (.cells (cbox 0 0 0 0 0 0 0 false) 23)
  have r0 := row_alloc1 w (.cells (cbox 2 o r b x g n d) 23) (cbox 0 0 0 0 0 0 0 false) 23
  unfold cbox at f0
  go_enter Try.func21, Try.ntmps21
  go_wp2_with fail
  refine (Dv _).mono ?_
  rintro e w1 ⟨rfl, f1⟩
  replace f0 := f0.trans f1
  replace r0 := r0.keep f1 (fun h => h)
  replace p0 := p0.keep f1 (fun h => h)
  clear f1
  have q0 := row_alloc w1 (cbox 2 o r b x g n d) 23
  have HN : Hid (w1.heap.size ≠ w.heap.size + 1 ∧ w1.heap.size ≠ w.heap.size ∧ w.heap.size ≤ w1.heap.size) := by have := r0.lt; exact ⟨by omega, by omega, by omega⟩
  replace r0 := r0.alloc (.cells (cbox 2 o r b x g n d) 23)
  replace p0 := p0.alloc (.cells (cbox 2 o r b x g n d) 23)
  replace f0 := f0.alloc (.cells (cbox 2 o r b x g n d) 23)
  unfold cbox at f0
  go_wp2_with fail
  refine (M _).mono ?_
  rintro e w2 ⟨rfl, f1⟩
  replace q0 := q0.keep f1 (fun h => h)
  replace r0 := r0.keep f1 (fun h => h)
  replace p0 := p0.keep f1 (fun h => h)
  replace f0 := f0.trans f1
  clear f1
  have hne := HN.out.1
  have hne' := hne.symm
  have hnf := HN.out.2.1
  have hnf' := hnf.symm
  obtain ⟨c0, c1, c2, c3, c4, c5, c6, c7⟩ := cbox_cells q0
  obtain ⟨l0, l1, l2, l3, l4, l5, l6, l7⟩ := cbox_frozen q0
  obtain ⟨d0, d1, d2', d3, d4, d5, d6, d7⟩ := cbox_cells r0
  obtain ⟨m0, m1, m2, m3, m4, m5, m6, m7⟩ := cbox_frozen r0
  obtain ⟨e0, e1, e2, e3, e4, e5, e6, e7⟩ := cbox_cells p0
  go_upto_if 38 with fail
  clear c0 c1 c2 c3 c4 c5 c6 c7 l0 l1 l2 l3 l4 l5 l6 l7 d0 d1 d2' d3 d4 d5 d6 d7 m0 m1 m2 m3 m4 m5 m6 m7 e0 e1 e2 e3 e4 e5 e6 e7
  replace q0 : Row ((((((((w2.setCell ⟨w1.heap.size, 0, none⟩ (.int .i64 k2)).setCell ⟨w1.heap.size, 1, none⟩ (.int .i64 o2)).setCell ⟨w1.heap.size, 2, none⟩ (.int .i64 r2)).setCell ⟨w1.heap.size, 3, none⟩ (.int .i64 b2)).setCell ⟨w1.heap.size, 4, none⟩ (.int .i64 x2)).setCell ⟨w1.heap.size, 5, none⟩ (.int .i64 g2)).setCell ⟨w1.heap.size, 6, none⟩ (.int .i64 n2)).setCell ⟨w1.heap.size, 7, none⟩ (.bool d2)) w1.heap.size (cbox k2 o2 r2 b2 x2 g2 n2 d2) 23 := cbox_set q0
  replace r0 : Row ((((((((w2.setCell ⟨w1.heap.size, 0, none⟩ (.int .i64 k2)).setCell ⟨w1.heap.size, 1, none⟩ (.int .i64 o2)).setCell ⟨w1.heap.size, 2, none⟩ (.int .i64 r2)).setCell ⟨w1.heap.size, 3, none⟩ (.int .i64 b2)).setCell ⟨w1.heap.size, 4, none⟩ (.int .i64 x2)).setCell ⟨w1.heap.size, 5, none⟩ (.int .i64 g2)).setCell ⟨w1.heap.size, 6, none⟩ (.int .i64 n2)).setCell ⟨w1.heap.size, 7, none⟩ (.bool d2)) (w.heap.size + 1) (cbox 0 0 0 0 0 0 0 false) 23 := cput_other r0 HN.out.1 k2 o2 r2 b2 x2 g2 n2 d2
  replace p0 : Row ((((((((w2.setCell ⟨w1.heap.size, 0, none⟩ (.int .i64 k2)).setCell ⟨w1.heap.size, 1, none⟩ (.int .i64 o2)).setCell ⟨w1.heap.size, 2, none⟩ (.int .i64 r2)).setCell ⟨w1.heap.size, 3, none⟩ (.int .i64 b2)).setCell ⟨w1.heap.size, 4, none⟩ (.int .i64 x2)).setCell ⟨w1.heap.size, 5, none⟩ (.int .i64 g2)).setCell ⟨w1.heap.size, 6, none⟩ (.int .i64 n2)).setCell ⟨w1.heap.size, 7, none⟩ (.bool d2)) w.heap.size (cbox 2 o r b x g n d) 23 := cput_other p0 HN.out.2.1 k2 o2 r2 b2 x2 g2 n2 d2
  replace f0 : Fr none' w ((((((((w2.setCell ⟨w1.heap.size, 0, none⟩ (.int .i64 k2)).setCell ⟨w1.heap.size, 1, none⟩ (.int .i64 o2)).setCell ⟨w1.heap.size, 2, none⟩ (.int .i64 r2)).setCell ⟨w1.heap.size, 3, none⟩ (.int .i64 b2)).setCell ⟨w1.heap.size, 4, none⟩ (.int .i64 x2)).setCell ⟨w1.heap.size, 5, none⟩ (.int .i64 g2)).setCell ⟨w1.heap.size, 6, none⟩ (.int .i64 n2)).setCell ⟨w1.heap.size, 7, none⟩ (.bool d2)) := cbox_fr k2 o2 r2 b2 x2 g2 n2 d2 f0 (Or.inl HN.out.2.2)
  obtain ⟨W, hW⟩ : ∃ W, W = ((((((((w2.setCell ⟨w1.heap.size, 0, none⟩ (.int .i64 k2)).setCell ⟨w1.heap.size, 1, none⟩ (.int .i64 o2)).setCell ⟨w1.heap.size, 2, none⟩ (.int .i64 r2)).setCell ⟨w1.heap.size, 3, none⟩ (.int .i64 b2)).setCell ⟨w1.heap.size, 4, none⟩ (.int .i64 x2)).setCell ⟨w1.heap.size, 5, none⟩ (.int .i64 g2)).setCell ⟨w1.heap.size, 6, none⟩ (.int .i64 n2)).setCell ⟨w1.heap.size, 7, none⟩ (.bool d2)) := ⟨_, rfl⟩
  rw [← hW] at q0 r0 p0 f0 ⊢
  clear hW
  obtain ⟨c0, c1, c2, c3, c4, c5, c6, c7⟩ := cbox_cells q0
  obtain ⟨l0, l1, l2, l3, l4, l5, l6, l7⟩ := cbox_frozen q0
  obtain ⟨d0, d1, d2', d3, d4, d5, d6, d7⟩ := cbox_cells r0
  obtain ⟨m0, m1, m2, m3, m4, m5, m6, m7⟩ := cbox_frozen r0
  obtain ⟨e0, e1, e2, e3, e4, e5, e6, e7⟩ := cbox_cells p0
  go_wp2_with (go_at_call 27; refine (G _).mono ?_; rintro e w3 ⟨rfl, rfl⟩)
  clear hne hne' hnf hnf' c0 c1 c2 c3 c4 c5 c6 c7 l0 l1 l2 l3 l4 l5 l6 l7 d0 d1 d2' d3 d4 d5 d6 d7 m0 m1 m2 m3 m4 m5 m6 m7 e0 e1 e2 e3 e4 e5 e6 e7
  replace f0 := f0.setCell (p := ⟨w1.heap.size, 5, none⟩) (Or.inl HN.out.2.2) (.int .i64 g')
  replace r0 := r0.setCell_other (p := ⟨w1.heap.size, 5, none⟩) HN.out.1 (.int .i64 g')
  replace f0 := f0.setCell (p := ⟨w1.heap.size, 6, none⟩) (Or.inl HN.out.2.2) (.int .i64 n')
  replace r0 := r0.setCell_other (p := ⟨w1.heap.size, 6, none⟩) HN.out.1 (.int .i64 n')
  refine bodyPost_ret (ret_cap_tmp rfl rfl (cbox_set r0) rfl) rfl ?_
  exact ⟨rfl, cbox_fr _ _ _ _ _ _ _ _ f0 (Or.inl (Nat.le_succ _))⟩

theorem rmint_any (k o r b x g n : Int) (d : Bool) (q y g' n' : Int) (w : World) : Calls Try.prog 21 #[.agg #[.int .i64 k, .int .i64 o, .int .i64 r, .int .i64 b, .int .i64 x, .int .i64 g, .int .i64 n, .bool d], .int .i64 q, .int .i64 y, .int .i64 g', .int .i64 n'] w fun e w' => e = .returned (.tuple #[.agg #[.int .i64 (mintC (K.mk k o r b x g n d) q y g' n').k, .int .i64 (mintC (K.mk k o r b x g n d) q y g' n').o, .int .i64 (mintC (K.mk k o r b x g n d) q y g' n').r, .int .i64 (mintC (K.mk k o r b x g n d) q y g' n').b, .int .i64 (mintC (K.mk k o r b x g n d) q y g' n').x, .int .i64 (mintC (K.mk k o r b x g n d) q y g' n').g, .int .i64 (mintC (K.mk k o r b x g n d) q y g' n').n, .bool (mintC (K.mk k o r b x g n d) q y g' n').d], .int .i64 (mintE (K.mk k o r b x g n d) y g' n')]) ∧ Fr none' w w' := by
  by_cases h : refE k = 0
  · have Dv := rderive_any k o r b x g n d
    have e : derC (K.mk k o r b x g n d) = (K.mk k o r b x g n d) := by unfold derC; rw [if_pos h]
    rw [e, h] at Dv
    have M := rmask_any k o r b x g n d q
    by_cases h45 : k = 4 ∨ k = 5
    · have e1 : mintC (K.mk k o r b x g n d) q y g' n' = badC (maskC (K.mk k o r b x g n d) q) y := by unfold mintC; rw [if_pos h, if_pos h45]
      have e2 : mintE (K.mk k o r b x g n d) y g' n' = badE (K.mk k o r b x g n d) y := by unfold mintE; rw [if_pos h, if_pos h45]
      have eb := mask_b (K.mk k o r b x g n d) q
      rw [e1, e2]
      cases hy : (y != 0)
      · have hy' : y = 0 := by simpa using hy
        rw [show badC (maskC (K.mk k o r b x g n d) q) y = maskC (K.mk k o r b x g n d) q by rw [hy', badC_none], show badE (K.mk k o r b x g n d) y = 0 by rw [hy', badE_none]]
        rcases h45 with rfl | rfl
        · exact rmint_n4 o r b x g n d q y g' n' _ _ _ _ _ _ _ _ w Dv M hy
        · exact rmint_n5 o r b x g n d q y g' n' _ _ _ _ _ _ _ _ w Dv M hy
      · have hy' : y ≠ 0 := by simpa using hy
        cases hb : (b != 0)
        · have hb' : b = 0 := by simpa using hb
          cases hl : decide (y < 0)
          · cases hm : decide (1048576 ≤ y)
            · have ok : bOk y = true := by
                rw [decide_eq_false_iff_not] at hl hm
                unfold bOk
                rw [decide_eq_true (show 0 ≤ y by omega), decide_eq_true (show y ≤ 1048575 by omega)]; rfl
              rw [badC_in hy' (eb.trans hb') ok, badE_in hy' hb' ok]
              rcases h45 with rfl | rfl
              · exact rmint_g4 o r b x g n d q y g' n' _ _ _ _ _ _ _ _ w Dv M hy hb hl hm
              · exact rmint_g5 o r b x g n d q y g' n' _ _ _ _ _ _ _ _ w Dv M hy hb hl hm
            · have ok : bOk y = false := by
                rw [decide_eq_true_eq] at hm
                unfold bOk
                rw [decide_eq_false (show ¬(y ≤ 1048575) by omega), Bool.and_false]
              rw [badC_out hy' (eb.trans hb') ok, badE_out hy' hb' ok]
              rcases h45 with rfl | rfl
              · exact rmint_m4 o r b x g n d q y g' n' _ _ _ _ _ _ _ _ w Dv M hy hb hl hm
              · exact rmint_m5 o r b x g n d q y g' n' _ _ _ _ _ _ _ _ w Dv M hy hb hl hm
          · have ok : bOk y = false := by
              rw [decide_eq_true_eq] at hl
              unfold bOk
              rw [decide_eq_false (show ¬(0 ≤ y) by omega), Bool.false_and]
            rw [badC_out hy' (eb.trans hb') ok, badE_out hy' hb' ok]
            rcases h45 with rfl | rfl
            · exact rmint_l4 o r b x g n d q y g' n' _ _ _ _ _ _ _ _ w Dv M hy hb hl
            · exact rmint_l5 o r b x g n d q y g' n' _ _ _ _ _ _ _ _ w Dv M hy hb hl
        · have hb' : b ≠ 0 := by simpa using hb
          rw [badC_had hy' (by rw [eb]; exact hb'), badE_had hy' hb']
          rcases h45 with rfl | rfl
          · exact rmint_h4 o r b x g n d q y g' n' _ _ _ _ _ _ _ _ w Dv M hy hb
          · exact rmint_h5 o r b x g n d q y g' n' _ _ _ _ _ _ _ _ w Dv M hy hb
    · by_cases h2 : k = 2
      · subst h2
        have G := rguard_any g' n'
        have e1 : mintC (K.mk 2 o r b x g n d) q y g' n' = guaC (maskC (K.mk 2 o r b x g n d) q) g' n' := rfl
        have e2 : mintE (K.mk 2 o r b x g n d) y g' n' = guaE g' n' := rfl
        rw [e1, e2]
        unfold guaC guaE
        cases hg : gOk g' n'
        · rw [hg] at G
          exact rmint_gn o r b x g n d q y g' n' _ _ _ _ _ _ _ _ w Dv M G
        · rw [hg] at G
          exact rmint_gy o r b x g n d q y g' n' _ _ _ _ _ _ _ _ w Dv M G
      · have e1 : mintC (K.mk k o r b x g n d) q y g' n' = maskC (K.mk k o r b x g n d) q := by unfold mintC; rw [if_pos h, if_neg h45, if_neg h2]
        have e2 : mintE (K.mk k o r b x g n d) y g' n' = 0 := by unfold mintE; rw [if_pos h, if_neg h45, if_neg h2]
        rw [e1, e2]
        exact rmint_els k o r b x g n d q y g' n' _ _ _ _ _ _ _ _ w Dv M (by rw [beq_eq_false_iff_ne]; omega) (by rw [beq_eq_false_iff_ne]; omega) (by rw [beq_eq_false_iff_ne]; omega)
  · have e1 : mintC (K.mk k o r b x g n d) q y g' n' = K0 := by unfold mintC; rw [if_neg h]
    have e2 : mintE (K.mk k o r b x g n d) y g' n' = refE k := by unfold mintE; rw [if_neg h]
    rw [e1, e2]
    exact rmint_ref k o r b x g n d q y g' n' w h

end Go.Proofs.Ytiiiiapaggkdkaa
