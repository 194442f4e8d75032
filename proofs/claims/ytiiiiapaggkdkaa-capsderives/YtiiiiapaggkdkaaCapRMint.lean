/-
  Contract of the document's Mint (package viceroyref11). No statement is proved here.
-/
import Derived.Test.YtiiiiapaggkdkaaCapRef
namespace Go.Proofs.Ytiiiiapaggkdkaa
open Go.RowKit

set_option maxHeartbeats 1600000 in
theorem rmint_ref (k o r b x g n : Int) (d : Bool) (q y g' n' : Int) (w : World) (h : refE k ≠ 0) : Calls Try.prog 21 #[.agg #[.int .i64 k, .int .i64 o, .int .i64 r, .int .i64 b, .int .i64 x, .int .i64 g, .int .i64 n, .bool d], .int .i64 q, .int .i64 y, .int .i64 g', .int .i64 n'] w fun e w' => e = .returned (.tuple #[.agg #[.int .i64 0, .int .i64 0, .int .i64 0, .int .i64 0, .int .i64 0, .int .i64 0, .int .i64 0, .bool false], .int .i64 (refE k)]) ∧ Fr none' w w' := by
  have D := rderive_any k o r b x g n d
  have e : derC (K.mk k o r b x g n d) = K0 := by unfold derC; rw [if_neg h]
  rw [e] at D
  have t1 : (refE k != 0) = true := by simpa using h
  clear e h
  generalize refE k = z at *
  replace D : ∀ w, Calls Try.prog 19 #[.agg #[.int .i64 k, .int .i64 o, .int .i64 r, .int .i64 b, .int .i64 x, .int .i64 g, .int .i64 n, .bool d]] w fun e w' => e = .returned (.tuple #[.agg #[.int .i64 0, .int .i64 0, .int .i64 0, .int .i64 0, .int .i64 0, .int .i64 0, .int .i64 0, .bool false], .int .i64 z]) ∧ Fr none' w w' := D
  have f0 := ((Fr.refl none' w).alloc (.cells (cbox k o r b x g n d) 23)).alloc (.cells (cbox 0 0 0 0 0 0 0 false) 23)
  have p0 := (row_alloc w (cbox k o r b x g n d) 23).alloc (.cells (cbox 0 0 0 0 0 0 0 false) 23)
  have r0 := row_alloc1 w (.cells (cbox k o r b x g n d) 23) (cbox 0 0 0 0 0 0 0 false) 23
  unfold cbox at f0
  go_enter Try.func21, Try.ntmps21
  go_wp2_with fail
  refine (D _).mono ?_
  rintro e w1 ⟨rfl, f1⟩
  replace f0 := f0.trans f1
  replace r0 := r0.keep f1 (fun h => h)
  replace p0 := p0.keep f1 (fun h => h)
  clear f1
  replace r0 := r0.alloc (.cells (cbox 0 0 0 0 0 0 0 false) 23)
  replace f0 := f0.alloc (.cells (cbox 0 0 0 0 0 0 0 false) 23)
  unfold cbox at f0
  obtain ⟨c0, c1, c2, c3, c4, c5, c6, c7⟩ := cbox_cells r0
  obtain ⟨k0, k1, k2, k3, k4, k5, k6, k7⟩ := cbox_frozen r0
  unfold cbox at c0 c1 c2 c3 c4 c5 c6 c7 k0 k1 k2 k3 k4 k5 k6 k7
  go_wp2_with fail
  refine bodyPost_ret (ret_cap_tmp rfl rfl (cbox_set r0) rfl) rfl ?_
  exact ⟨rfl, cbox_fr _ _ _ _ _ _ _ _ f0 (Or.inl (Nat.le_succ _))⟩

set_option maxRecDepth 100000 in
set_option maxHeartbeats 1600000 in
theorem rmint_n4 (o r b x g n : Int) (d : Bool) (q y g' n' : Int) (k2 o2 r2 b2 x2 g2 n2 : Int) (d2 : Bool) (w : World)
    (Dv : ∀ w, Calls Try.prog 19 #[.agg #[.int .i64 4, .int .i64 o, .int .i64 r, .int .i64 b, .int .i64 x, .int .i64 g, .int .i64 n, .bool d]] w fun e w' => e = .returned (.tuple #[.agg #[.int .i64 4, .int .i64 o, .int .i64 r, .int .i64 b, .int .i64 x, .int .i64 g, .int .i64 n, .bool d], .int .i64 0]) ∧ Fr none' w w')
    (M : ∀ w, Calls Try.prog 17 #[.agg #[.int .i64 4, .int .i64 o, .int .i64 r, .int .i64 b, .int .i64 x, .int .i64 g, .int .i64 n, .bool d], .int .i64 q] w fun e w' => e = .returned (.agg #[.int .i64 k2, .int .i64 o2, .int .i64 r2, .int .i64 b2, .int .i64 x2, .int .i64 g2, .int .i64 n2, .bool d2]) ∧ Fr none' w w') (t : (y != 0) = false) :
    Calls Try.prog 21 #[.agg #[.int .i64 4, .int .i64 o, .int .i64 r, .int .i64 b, .int .i64 x, .int .i64 g, .int .i64 n, .bool d], .int .i64 q, .int .i64 y, .int .i64 g', .int .i64 n'] w fun e w' => e = .returned (.tuple #[.agg #[.int .i64 k2, .int .i64 o2, .int .i64 r2, .int .i64 b2, .int .i64 x2, .int .i64 g2, .int .i64 n2, .bool d2], .int .i64 0]) ∧ Fr none' w w' := by
  have f0 := ((Fr.refl none' w).alloc (.cells (cbox 4 o r b x g n d) 23)).alloc (.cells (cbox 0 0 0 0 0 0 0 false) 23)
  have p0 := (row_alloc w (cbox 4 o r b x g n d) 23).alloc (.cells (cbox 0 0 0 0 0 0 0 false) 23)
  have r0 := row_alloc1 w (.cells (cbox 4 o r b x g n d) 23) (cbox 0 0 0 0 0 0 0 false) 23
  unfold cbox at f0
  go_enter Try.func21, Try.ntmps21
  go_wp2_with fail
  refine (Dv _).mono ?_
  rintro e w1 ⟨rfl, f1⟩
  replace f0 := f0.trans f1
  replace r0 := r0.keep f1 (fun h => h)
  replace p0 := p0.keep f1 (fun h => h)
  clear f1
  have q0 := row_alloc w1 (cbox 4 o r b x g n d) 23
  have HN : Hid (w1.heap.size ≠ w.heap.size + 1 ∧ w1.heap.size ≠ w.heap.size ∧ w.heap.size ≤ w1.heap.size) := by have := r0.lt; exact ⟨by omega, by omega, by omega⟩
  replace r0 := r0.alloc (.cells (cbox 4 o r b x g n d) 23)
  replace p0 := p0.alloc (.cells (cbox 4 o r b x g n d) 23)
  replace f0 := f0.alloc (.cells (cbox 4 o r b x g n d) 23)
  unfold cbox at f0
  go_wp2_with fail
  refine (M _).mono ?_
  rintro e w2 ⟨rfl, f1⟩
  replace q0 := q0.keep f1 (fun h => h)
  replace r0 := r0.keep f1 (fun h => h)
  replace p0 := p0.keep f1 (fun h => h)
  replace f0 := f0.trans f1
  clear f1
  have hne := HN.out.1
  have hne' := hne.symm
  have hnf := HN.out.2.1
  have hnf' := hnf.symm
  obtain ⟨c0, c1, c2, c3, c4, c5, c6, c7⟩ := cbox_cells q0
  obtain ⟨l0, l1, l2, l3, l4, l5, l6, l7⟩ := cbox_frozen q0
  obtain ⟨d0, d1, d2', d3, d4, d5, d6, d7⟩ := cbox_cells r0
  obtain ⟨m0, m1, m2, m3, m4, m5, m6, m7⟩ := cbox_frozen r0
  obtain ⟨e0, e1, e2, e3, e4, e5, e6, e7⟩ := cbox_cells p0
  go_wp2_with (fail)
  clear hne hne' hnf hnf' c0 c1 c2 c3 c4 c5 c6 c7 l0 l1 l2 l3 l4 l5 l6 l7 d0 d1 d2' d3 d4 d5 d6 d7 m0 m1 m2 m3 m4 m5 m6 m7 e0 e1 e2 e3 e4 e5 e6 e7
  replace f0 := cbox_fr k2 o2 r2 b2 x2 g2 n2 d2 f0 (Or.inl HN.out.2.2)
  replace r0 := cput_other r0 HN.out.1 k2 o2 r2 b2 x2 g2 n2 d2
  refine bodyPost_ret (ret_cap_tmp rfl rfl (cbox_set r0) rfl) rfl ?_
  exact ⟨rfl, cbox_fr _ _ _ _ _ _ _ _ f0 (Or.inl (Nat.le_succ _))⟩

set_option maxRecDepth 100000 in
set_option maxHeartbeats 1600000 in
theorem rmint_h4 (o r b x g n : Int) (d : Bool) (q y g' n' : Int) (k2 o2 r2 b2 x2 g2 n2 : Int) (d2 : Bool) (w : World)
    (Dv : ∀ w, Calls Try.prog 19 #[.agg #[.int .i64 4, .int .i64 o, .int .i64 r, .int .i64 b, .int .i64 x, .int .i64 g, .int .i64 n, .bool d]] w fun e w' => e = .returned (.tuple #[.agg #[.int .i64 4, .int .i64 o, .int .i64 r, .int .i64 b, .int .i64 x, .int .i64 g, .int .i64 n, .bool d], .int .i64 0]) ∧ Fr none' w w')
    (M : ∀ w, Calls Try.prog 17 #[.agg #[.int .i64 4, .int .i64 o, .int .i64 r, .int .i64 b, .int .i64 x, .int .i64 g, .int .i64 n, .bool d], .int .i64 q] w fun e w' => e = .returned (.agg #[.int .i64 k2, .int .i64 o2, .int .i64 r2, .int .i64 b2, .int .i64 x2, .int .i64 g2, .int .i64 n2, .bool d2]) ∧ Fr none' w w') (t : (y != 0) = true) (t1 : (b != 0) = true) :
    Calls Try.prog 21 #[.agg #[.int .i64 4, .int .i64 o, .int .i64 r, .int .i64 b, .int .i64 x, .int .i64 g, .int .i64 n, .bool d], .int .i64 q, .int .i64 y, .int .i64 g', .int .i64 n'] w fun e w' => e = .returned (.tuple #[.agg #[.int .i64 0, .int .i64 0, .int .i64 0, .int .i64 0, .int .i64 0, .int .i64 0, .int .i64 0, .bool false], .int .i64 110]) ∧ Fr none' w w' := by
  have f0 := ((Fr.refl none' w).alloc (.cells (cbox 4 o r b x g n d) 23)).alloc (.cells (cbox 0 0 0 0 0 0 0 false) 23)
  have p0 := (row_alloc w (cbox 4 o r b x g n d) 23).alloc (.cells (cbox 0 0 0 0 0 0 0 false) 23)
  have r0 := row_alloc1 w (.cells (cbox 4 o r b x g n d) 23) (cbox 0 0 0 0 0 0 0 false) 23
  unfold cbox at f0
  go_enter Try.func21, Try.ntmps21
  go_wp2_with fail
  refine (Dv _).mono ?_
  rintro e w1 ⟨rfl, f1⟩
  replace f0 := f0.trans f1
  replace r0 := r0.keep f1 (fun h => h)
  replace p0 := p0.keep f1 (fun h => h)
  clear f1
  have q0 := row_alloc w1 (cbox 4 o r b x g n d) 23
  have HN : Hid (w1.heap.size ≠ w.heap.size + 1 ∧ w1.heap.size ≠ w.heap.size ∧ w.heap.size ≤ w1.heap.size) := by have := r0.lt; exact ⟨by omega, by omega, by omega⟩
  replace r0 := r0.alloc (.cells (cbox 4 o r b x g n d) 23)
  replace p0 := p0.alloc (.cells (cbox 4 o r b x g n d) 23)
  replace f0 := f0.alloc (.cells (cbox 4 o r b x g n d) 23)
  unfold cbox at f0
  go_wp2_with fail
  refine (M _).mono ?_
  rintro e w2 ⟨rfl, f1⟩
  replace q0 := q0.keep f1 (fun h => h)
  replace r0 := r0.keep f1 (fun h => h)
  replace p0 := p0.keep f1 (fun h => h)
  replace f0 := f0.trans f1
  clear f1
  have hne := HN.out.1
  have hne' := hne.symm
  have hnf := HN.out.2.1
  have hnf' := hnf.symm
  obtain ⟨c0, c1, c2, c3, c4, c5, c6, c7⟩ := cbox_cells q0
  obtain ⟨l0, l1, l2, l3, l4, l5, l6, l7⟩ := cbox_frozen q0
  obtain ⟨d0, d1, d2', d3, d4, d5, d6, d7⟩ := cbox_cells r0
  obtain ⟨m0, m1, m2, m3, m4, m5, m6, m7⟩ := cbox_frozen r0
  obtain ⟨e0, e1, e2, e3, e4, e5, e6, e7⟩ := cbox_cells p0
  go_wp2_with (fail)
  clear hne hne' hnf hnf' c0 c1 c2 c3 c4 c5 c6 c7 l0 l1 l2 l3 l4 l5 l6 l7 d0 d1 d2' d3 d4 d5 d6 d7 m0 m1 m2 m3 m4 m5 m6 m7 e0 e1 e2 e3 e4 e5 e6 e7
  replace f0 := cbox_fr k2 o2 r2 b2 x2 g2 n2 d2 f0 (Or.inl HN.out.2.2)
  replace r0 := cput_other r0 HN.out.1 k2 o2 r2 b2 x2 g2 n2 d2
  refine bodyPost_ret (ret_cap_tmp rfl rfl (cbox_set r0) rfl) rfl ?_
  exact ⟨rfl, cbox_fr _ _ _ _ _ _ _ _ f0 (Or.inl (Nat.le_succ _))⟩

set_option maxRecDepth 100000 in
set_option maxHeartbeats 1600000 in
theorem rmint_l4 (o r b x g n : Int) (d : Bool) (q y g' n' : Int) (k2 o2 r2 b2 x2 g2 n2 : Int) (d2 : Bool) (w : World)
    (Dv : ∀ w, Calls Try.prog 19 #[.agg #[.int .i64 4, .int .i64 o, .int .i64 r, .int .i64 b, .int .i64 x, .int .i64 g, .int .i64 n, .bool d]] w fun e w' => e = .returned (.tuple #[.agg #[.int .i64 4, .int .i64 o, .int .i64 r, .int .i64 b, .int .i64 x, .int .i64 g, .int .i64 n, .bool d], .int .i64 0]) ∧ Fr none' w w')
    (M : ∀ w, Calls Try.prog 17 #[.agg #[.int .i64 4, .int .i64 o, .int .i64 r, .int .i64 b, .int .i64 x, .int .i64 g, .int .i64 n, .bool d], .int .i64 q] w fun e w' => e = .returned (.agg #[.int .i64 k2, .int .i64 o2, .int .i64 r2, .int .i64 b2, .int .i64 x2, .int .i64 g2, .int .i64 n2, .bool d2]) ∧ Fr none' w w') (t : (y != 0) = true) (t1 : (b != 0) = false) (t2 : decide (y < 0) = true) :
    Calls Try.prog 21 #[.agg #[.int .i64 4, .int .i64 o, .int .i64 r, .int .i64 b, .int .i64 x, .int .i64 g, .int .i64 n, .bool d], .int .i64 q, .int .i64 y, .int .i64 g', .int .i64 n'] w fun e w' => e = .returned (.tuple #[.agg #[.int .i64 0, .int .i64 0, .int .i64 0, .int .i64 0, .int .i64 0, .int .i64 0, .int .i64 0, .bool false], .int .i64 1]) ∧ Fr none' w w' := by
  have f0 := ((Fr.refl none' w).alloc (.cells (cbox 4 o r b x g n d) 23)).alloc (.cells (cbox 0 0 0 0 0 0 0 false) 23)
  have p0 := (row_alloc w (cbox 4 o r b x g n d) 23).alloc (.cells (cbox 0 0 0 0 0 0 0 false) 23)
  have r0 := row_alloc1 w (.cells (cbox 4 o r b x g n d) 23) (cbox 0 0 0 0 0 0 0 false) 23
  unfold cbox at f0
  go_enter Try.func21, Try.ntmps21
  go_wp2_with fail
  refine (Dv _).mono ?_
  rintro e w1 ⟨rfl, f1⟩
  replace f0 := f0.trans f1
  replace r0 := r0.keep f1 (fun h => h)
  replace p0 := p0.keep f1 (fun h => h)
  clear f1
  have q0 := row_alloc w1 (cbox 4 o r b x g n d) 23
  have HN : Hid (w1.heap.size ≠ w.heap.size + 1 ∧ w1.heap.size ≠ w.heap.size ∧ w.heap.size ≤ w1.heap.size) := by have := r0.lt; exact ⟨by omega, by omega, by omega⟩
  replace r0 := r0.alloc (.cells (cbox 4 o r b x g n d) 23)
  replace p0 := p0.alloc (.cells (cbox 4 o r b x g n d) 23)
  replace f0 := f0.alloc (.cells (cbox 4 o r b x g n d) 23)
  unfold cbox at f0
  go_wp2_with fail
  refine (M _).mono ?_
  rintro e w2 ⟨rfl, f1⟩
  replace q0 := q0.keep f1 (fun h => h)
  replace r0 := r0.keep f1 (fun h => h)
  replace p0 := p0.keep f1 (fun h => h)
  replace f0 := f0.trans f1
  clear f1
  have hne := HN.out.1
  have hne' := hne.symm
  have hnf := HN.out.2.1
  have hnf' := hnf.symm
  obtain ⟨c0, c1, c2, c3, c4, c5, c6, c7⟩ := cbox_cells q0
  obtain ⟨l0, l1, l2, l3, l4, l5, l6, l7⟩ := cbox_frozen q0
  obtain ⟨d0, d1, d2', d3, d4, d5, d6, d7⟩ := cbox_cells r0
  obtain ⟨m0, m1, m2, m3, m4, m5, m6, m7⟩ := cbox_frozen r0
  obtain ⟨e0, e1, e2, e3, e4, e5, e6, e7⟩ := cbox_cells p0
  go_wp2_with (fail)
  clear hne hne' hnf hnf' c0 c1 c2 c3 c4 c5 c6 c7 l0 l1 l2 l3 l4 l5 l6 l7 d0 d1 d2' d3 d4 d5 d6 d7 m0 m1 m2 m3 m4 m5 m6 m7 e0 e1 e2 e3 e4 e5 e6 e7
  replace f0 := cbox_fr k2 o2 r2 b2 x2 g2 n2 d2 f0 (Or.inl HN.out.2.2)
  replace r0 := cput_other r0 HN.out.1 k2 o2 r2 b2 x2 g2 n2 d2
  refine bodyPost_ret (ret_cap_tmp rfl rfl (cbox_set r0) rfl) rfl ?_
  exact ⟨rfl, cbox_fr _ _ _ _ _ _ _ _ f0 (Or.inl (Nat.le_succ _))⟩

set_option maxRecDepth 100000 in
set_option maxHeartbeats 1600000 in
theorem rmint_m4 (o r b x g n : Int) (d : Bool) (q y g' n' : Int) (k2 o2 r2 b2 x2 g2 n2 : Int) (d2 : Bool) (w : World)
    (Dv : ∀ w, Calls Try.prog 19 #[.agg #[.int .i64 4, .int .i64 o, .int .i64 r, .int .i64 b, .int .i64 x, .int .i64 g, .int .i64 n, .bool d]] w fun e w' => e = .returned (.tuple #[.agg #[.int .i64 4, .int .i64 o, .int .i64 r, .int .i64 b, .int .i64 x, .int .i64 g, .int .i64 n, .bool d], .int .i64 0]) ∧ Fr none' w w')
    (M : ∀ w, Calls Try.prog 17 #[.agg #[.int .i64 4, .int .i64 o, .int .i64 r, .int .i64 b, .int .i64 x, .int .i64 g, .int .i64 n, .bool d], .int .i64 q] w fun e w' => e = .returned (.agg #[.int .i64 k2, .int .i64 o2, .int .i64 r2, .int .i64 b2, .int .i64 x2, .int .i64 g2, .int .i64 n2, .bool d2]) ∧ Fr none' w w') (t : (y != 0) = true) (t1 : (b != 0) = false) (t2 : decide (y < 0) = false) (t3 : decide (1048576 ≤ y) = true) :
    Calls Try.prog 21 #[.agg #[.int .i64 4, .int .i64 o, .int .i64 r, .int .i64 b, .int .i64 x, .int .i64 g, .int .i64 n, .bool d], .int .i64 q, .int .i64 y, .int .i64 g', .int .i64 n'] w fun e w' => e = .returned (.tuple #[.agg #[.int .i64 0, .int .i64 0, .int .i64 0, .int .i64 0, .int .i64 0, .int .i64 0, .int .i64 0, .bool false], .int .i64 1]) ∧ Fr none' w w' := by
  have f0 := ((Fr.refl none' w).alloc (.cells (cbox 4 o r b x g n d) 23)).alloc (.cells (cbox 0 0 0 0 0 0 0 false) 23)
  have p0 := (row_alloc w (cbox 4 o r b x g n d) 23).alloc (.cells (cbox 0 0 0 0 0 0 0 false) 23)
  have r0 := row_alloc1 w (.cells (cbox 4 o r b x g n d) 23) (cbox 0 0 0 0 0 0 0 false) 23
  unfold cbox at f0
  go_enter Try.func21, Try.ntmps21
  go_wp2_with fail
  refine (Dv _).mono ?_
  rintro e w1 ⟨rfl, f1⟩
  replace f0 := f0.trans f1
  replace r0 := r0.keep f1 (fun h => h)
  replace p0 := p0.keep f1 (fun h => h)
  clear f1
  have q0 := row_alloc w1 (cbox 4 o r b x g n d) 23
  have HN : Hid (w1.heap.size ≠ w.heap.size + 1 ∧ w1.heap.size ≠ w.heap.size ∧ w.heap.size ≤ w1.heap.size) := by have := r0.lt; exact ⟨by omega, by omega, by omega⟩
  replace r0 := r0.alloc (.cells (cbox 4 o r b x g n d) 23)
  replace p0 := p0.alloc (.cells (cbox 4 o r b x g n d) 23)
  replace f0 := f0.alloc (.cells (cbox 4 o r b x g n d) 23)
  unfold cbox at f0
  go_wp2_with fail
  refine (M _).mono ?_
  rintro e w2 ⟨rfl, f1⟩
  replace q0 := q0.keep f1 (fun h => h)
  replace r0 := r0.keep f1 (fun h => h)
  replace p0 := p0.keep f1 (fun h => h)
  replace f0 := f0.trans f1
  clear f1
  have hne := HN.out.1
  have hne' := hne.symm
  have hnf := HN.out.2.1
  have hnf' := hnf.symm
  obtain ⟨c0, c1, c2, c3, c4, c5, c6, c7⟩ := cbox_cells q0
  obtain ⟨l0, l1, l2, l3, l4, l5, l6, l7⟩ := cbox_frozen q0
  obtain ⟨d0, d1, d2', d3, d4, d5, d6, d7⟩ := cbox_cells r0
  obtain ⟨m0, m1, m2, m3, m4, m5, m6, m7⟩ := cbox_frozen r0
  obtain ⟨e0, e1, e2, e3, e4, e5, e6, e7⟩ := cbox_cells p0
  go_wp2_with (fail)
  clear hne hne' hnf hnf' c0 c1 c2 c3 c4 c5 c6 c7 l0 l1 l2 l3 l4 l5 l6 l7 d0 d1 d2' d3 d4 d5 d6 d7 m0 m1 m2 m3 m4 m5 m6 m7 e0 e1 e2 e3 e4 e5 e6 e7
  replace f0 := cbox_fr k2 o2 r2 b2 x2 g2 n2 d2 f0 (Or.inl HN.out.2.2)
  replace r0 := cput_other r0 HN.out.1 k2 o2 r2 b2 x2 g2 n2 d2
  refine bodyPost_ret (ret_cap_tmp rfl rfl (cbox_set r0) rfl) rfl ?_
  exact ⟨rfl, cbox_fr _ _ _ _ _ _ _ _ f0 (Or.inl (Nat.le_succ _))⟩

set_option maxRecDepth 100000 in
set_option maxHeartbeats 1600000 in
theorem rmint_n5 (o r b x g n : Int) (d : Bool) (q y g' n' : Int) (k2 o2 r2 b2 x2 g2 n2 : Int) (d2 : Bool) (w : World)
    (Dv : ∀ w, Calls Try.prog 19 #[.agg #[.int .i64 5, .int .i64 o, .int .i64 r, .int .i64 b, .int .i64 x, .int .i64 g, .int .i64 n, .bool d]] w fun e w' => e = .returned (.tuple #[.agg #[.int .i64 5, .int .i64 o, .int .i64 r, .int .i64 b, .int .i64 x, .int .i64 g, .int .i64 n, .bool d], .int .i64 0]) ∧ Fr none' w w')
    (M : ∀ w, Calls Try.prog 17 #[.agg #[.int .i64 5, .int .i64 o, .int .i64 r, .int .i64 b, .int .i64 x, .int .i64 g, .int .i64 n, .bool d], .int .i64 q] w fun e w' => e = .returned (.agg #[.int .i64 k2, .int .i64 o2, .int .i64 r2, .int .i64 b2, .int .i64 x2, .int .i64 g2, .int .i64 n2, .bool d2]) ∧ Fr none' w w') (t : (y != 0) = false) :
    Calls Try.prog 21 #[.agg #[.int .i64 5, .int .i64 o, .int .i64 r, .int .i64 b, .int .i64 x, .int .i64 g, .int .i64 n, .bool d], .int .i64 q, .int .i64 y, .int .i64 g', .int .i64 n'] w fun e w' => e = .returned (.tuple #[.agg #[.int .i64 k2, .int .i64 o2, .int .i64 r2, .int .i64 b2, .int .i64 x2, .int .i64 g2, .int .i64 n2, .bool d2], .int .i64 0]) ∧ Fr none' w w' := by
  have f0 := ((Fr.refl none' w).alloc (.cells (cbox 5 o r b x g n d) 23)).alloc (.cells (cbox 0 0 0 0 0 0 0 false) 23)
  have p0 := (row_alloc w (cbox 5 o r b x g n d) 23).alloc (.cells (cbox 0 0 0 0 0 0 0 false) 23)
  have r0 := row_alloc1 w (.cells (cbox 5 o r b x g n d) 23) (cbox 0 0 0 0 0 0 0 false) 23
  unfold cbox at f0
  go_enter Try.func21, Try.ntmps21
  go_wp2_with fail
  refine (Dv _).mono ?_
  rintro e w1 ⟨rfl, f1⟩
  replace f0 := f0.trans f1
  replace r0 := r0.keep f1 (fun h => h)
  replace p0 := p0.keep f1 (fun h => h)
  clear f1
  have q0 := row_alloc w1 (cbox 5 o r b x g n d) 23
  have HN : Hid (w1.heap.size ≠ w.heap.size + 1 ∧ w1.heap.size ≠ w.heap.size ∧ w.heap.size ≤ w1.heap.size) := by have := r0.lt; exact ⟨by omega, by omega, by omega⟩
  replace r0 := r0.alloc (.cells (cbox 5 o r b x g n d) 23)
  replace p0 := p0.alloc (.cells (cbox 5 o r b x g n d) 23)
  replace f0 := f0.alloc (.cells (cbox 5 o r b x g n d) 23)
  unfold cbox at f0
  go_wp2_with fail
  refine (M _).mono ?_
  rintro e w2 ⟨rfl, f1⟩
  replace q0 := q0.keep f1 (fun h => h)
  replace r0 := r0.keep f1 (fun h => h)
  replace p0 := p0.keep f1 (fun h => h)
  replace f0 := f0.trans f1
  clear f1
  have hne := HN.out.1
  have hne' := hne.symm
  have hnf := HN.out.2.1
  have hnf' := hnf.symm
  obtain ⟨c0, c1, c2, c3, c4, c5, c6, c7⟩ := cbox_cells q0
  obtain ⟨l0, l1, l2, l3, l4, l5, l6, l7⟩ := cbox_frozen q0
  obtain ⟨d0, d1, d2', d3, d4, d5, d6, d7⟩ := cbox_cells r0
  obtain ⟨m0, m1, m2, m3, m4, m5, m6, m7⟩ := cbox_frozen r0
  obtain ⟨e0, e1, e2, e3, e4, e5, e6, e7⟩ := cbox_cells p0
  go_wp2_with (fail)
  clear hne hne' hnf hnf' c0 c1 c2 c3 c4 c5 c6 c7 l0 l1 l2 l3 l4 l5 l6 l7 d0 d1 d2' d3 d4 d5 d6 d7 m0 m1 m2 m3 m4 m5 m6 m7 e0 e1 e2 e3 e4 e5 e6 e7
  replace f0 := cbox_fr k2 o2 r2 b2 x2 g2 n2 d2 f0 (Or.inl HN.out.2.2)
  replace r0 := cput_other r0 HN.out.1 k2 o2 r2 b2 x2 g2 n2 d2
  refine bodyPost_ret (ret_cap_tmp rfl rfl (cbox_set r0) rfl) rfl ?_
  exact ⟨rfl, cbox_fr _ _ _ _ _ _ _ _ f0 (Or.inl (Nat.le_succ _))⟩

set_option maxRecDepth 100000 in
set_option maxHeartbeats 1600000 in
theorem rmint_h5 (o r b x g n : Int) (d : Bool) (q y g' n' : Int) (k2 o2 r2 b2 x2 g2 n2 : Int) (d2 : Bool) (w : World)
    (Dv : ∀ w, Calls Try.prog 19 #[.agg #[.int .i64 5, .int .i64 o, .int .i64 r, .int .i64 b, .int .i64 x, .int .i64 g, .int .i64 n, .bool d]] w fun e w' => e = .returned (.tuple #[.agg #[.int .i64 5, .int .i64 o, .int .i64 r, .int .i64 b, .int .i64 x, .int .i64 g, .int .i64 n, .bool d], .int .i64 0]) ∧ Fr none' w w')
    (M : ∀ w, Calls Try.prog 17 #[.agg #[.int .i64 5, .int .i64 o, .int .i64 r, .int .i64 b, .int .i64 x, .int .i64 g, .int .i64 n, .bool d], .int .i64 q] w fun e w' => e = .returned (.agg #[.int .i64 k2, .int .i64 o2, .int .i64 r2, .int .i64 b2, .int .i64 x2, .int .i64 g2, .int .i64 n2, .bool d2]) ∧ Fr none' w w') (t : (y != 0) = true) (t1 : (b != 0) = true) :
    Calls Try.prog 21 #[.agg #[.int .i64 5, .int .i64 o, .int .i64 r, .int .i64 b, .int .i64 x, .int .i64 g, .int .i64 n, .bool d], .int .i64 q, .int .i64 y, .int .i64 g', .int .i64 n'] w fun e w' => e = .returned (.tuple #[.agg #[.int .i64 0, .int .i64 0, .int .i64 0, .int .i64 0, .int .i64 0, .int .i64 0, .int .i64 0, .bool false], .int .i64 110]) ∧ Fr none' w w' := by
  have f0 := ((Fr.refl none' w).alloc (.cells (cbox 5 o r b x g n d) 23)).alloc (.cells (cbox 0 0 0 0 0 0 0 false) 23)
  have p0 := (row_alloc w (cbox 5 o r b x g n d) 23).alloc (.cells (cbox 0 0 0 0 0 0 0 false) 23)
  have r0 := row_alloc1 w (.cells (cbox 5 o r b x g n d) 23) (cbox 0 0 0 0 0 0 0 false) 23
  unfold cbox at f0
  go_enter Try.func21, Try.ntmps21
  go_wp2_with fail
  refine (Dv _).mono ?_
  rintro e w1 ⟨rfl, f1⟩
  replace f0 := f0.trans f1
  replace r0 := r0.keep f1 (fun h => h)
  replace p0 := p0.keep f1 (fun h => h)
  clear f1
  have q0 := row_alloc w1 (cbox 5 o r b x g n d) 23
  have HN : Hid (w1.heap.size ≠ w.heap.size + 1 ∧ w1.heap.size ≠ w.heap.size ∧ w.heap.size ≤ w1.heap.size) := by have := r0.lt; exact ⟨by omega, by omega, by omega⟩
  replace r0 := r0.alloc (.cells (cbox 5 o r b x g n d) 23)
  replace p0 := p0.alloc (.cells (cbox 5 o r b x g n d) 23)
  replace f0 := f0.alloc (.cells (cbox 5 o r b x g n d) 23)
  unfold cbox at f0
  go_wp2_with fail
  refine (M _).mono ?_
  rintro e w2 ⟨rfl, f1⟩
  replace q0 := q0.keep f1 (fun h => h)
  replace r0 := r0.keep f1 (fun h => h)
  replace p0 := p0.keep f1 (fun h => h)
  replace f0 := f0.trans f1
  clear f1
  have hne := HN.out.1
  have hne' := hne.symm
  have hnf := HN.out.2.1
  have hnf' := hnf.symm
  obtain ⟨c0, c1, c2, c3, c4, c5, c6, c7⟩ := cbox_cells q0
  obtain ⟨l0, l1, l2, l3, l4, l5, l6, l7⟩ := cbox_frozen q0
  obtain ⟨d0, d1, d2', d3, d4, d5, d6, d7⟩ := cbox_cells r0
  obtain ⟨m0, m1, m2, m3, m4, m5, m6, m7⟩ := cbox_frozen r0
  obtain ⟨e0, e1, e2, e3, e4, e5, e6, e7⟩ := cbox_cells p0
  go_wp2_with (fail)
  clear hne hne' hnf hnf' c0 c1 c2 c3 c4 c5 c6 c7 l0 l1 l2 l3 l4 l5 l6 l7 d0 d1 d2' d3 d4 d5 d6 d7 m0 m1 m2 m3 m4 m5 m6 m7 e0 e1 e2 e3 e4 e5 e6 e7
  replace f0 := cbox_fr k2 o2 r2 b2 x2 g2 n2 d2 f0 (Or.inl HN.out.2.2)
  replace r0 := cput_other r0 HN.out.1 k2 o2 r2 b2 x2 g2 n2 d2
  refine bodyPost_ret (ret_cap_tmp rfl rfl (cbox_set r0) rfl) rfl ?_
  exact ⟨rfl, cbox_fr _ _ _ _ _ _ _ _ f0 (Or.inl (Nat.le_succ _))⟩

set_option maxRecDepth 100000 in
set_option maxHeartbeats 1600000 in
theorem rmint_l5 (o r b x g n : Int) (d : Bool) (q y g' n' : Int) (k2 o2 r2 b2 x2 g2 n2 : Int) (d2 : Bool) (w : World)
    (Dv : ∀ w, Calls Try.prog 19 #[.agg #[.int .i64 5, .int .i64 o, .int .i64 r, .int .i64 b, .int .i64 x, .int .i64 g, .int .i64 n, .bool d]] w fun e w' => e = .returned (.tuple #[.agg #[.int .i64 5, .int .i64 o, .int .i64 r, .int .i64 b, .int .i64 x, .int .i64 g, .int .i64 n, .bool d], .int .i64 0]) ∧ Fr none' w w')
    (M : ∀ w, Calls Try.prog 17 #[.agg #[.int .i64 5, .int .i64 o, .int .i64 r, .int .i64 b, .int .i64 x, .int .i64 g, .int .i64 n, .bool d], .int .i64 q] w fun e w' => e = .returned (.agg #[.int .i64 k2, .int .i64 o2, .int .i64 r2, .int .i64 b2, .int .i64 x2, .int .i64 g2, .int .i64 n2, .bool d2]) ∧ Fr none' w w') (t : (y != 0) = true) (t1 : (b != 0) = false) (t2 : decide (y < 0) = true) :
    Calls Try.prog 21 #[.agg #[.int .i64 5, .int .i64 o, .int .i64 r, .int .i64 b, .int .i64 x, .int .i64 g, .int .i64 n, .bool d], .int .i64 q, .int .i64 y, .int .i64 g', .int .i64 n'] w fun e w' => e = .returned (.tuple #[.agg #[.int .i64 0, .int .i64 0, .int .i64 0, .int .i64 0, .int .i64 0, .int .i64 0, .int .i64 0, .bool false], .int .i64 1]) ∧ Fr none' w w' := by
  have f0 := ((Fr.refl none' w).alloc (.cells (cbox 5 o r b x g n d) 23)).alloc (.cells (cbox 0 0 0 0 0 0 0 false) 23)
  have p0 := (row_alloc w (cbox 5 o r b x g n d) 23).alloc (.cells (cbox 0 0 0 0 0 0 0 false) 23)
  have r0 := row_alloc1 w (.cells (cbox 5 o r b x g n d) 23) (cbox 0 0 0 0 0 0 0 false) 23
  unfold cbox at f0
  go_enter Try.func21, Try.ntmps21
  go_wp2_with fail
  refine (Dv _).mono ?_
  rintro e w1 ⟨rfl, f1⟩
  replace f0 := f0.trans f1
  replace r0 := r0.keep f1 (fun h => h)
  replace p0 := p0.keep f1 (fun h => h)
  clear f1
  have q0 := row_alloc w1 (cbox 5 o r b x g n d) 23
  have HN : Hid (w1.heap.size ≠ w.heap.size + 1 ∧ w1.heap.size ≠ w.heap.size ∧ w.heap.size ≤ w1.heap.size) := by have := r0.lt; exact ⟨by omega, by omega, by omega⟩
  replace r0 := r0.alloc (.cells (cbox 5 o r b x g n d) 23)
  replace p0 := p0.alloc (.cells (cbox 5 o r b x g n d) 23)
  replace f0 := f0.alloc (.cells (cbox 5 o r b x g n d) 23)
  unfold cbox at f0
  go_wp2_with fail
  refine (M _).mono ?_
  rintro e w2 ⟨rfl, f1⟩
  replace q0 := q0.keep f1 (fun h => h)
  replace r0 := r0.keep f1 (fun h => h)
  replace p0 := p0.keep f1 (fun h => h)
  replace f0 := f0.trans f1
  clear f1
  have hne := HN.out.1
  have hne' := hne.symm
  have hnf := HN.out.2.1
  have hnf' := hnf.symm
  obtain ⟨c0, c1, c2, c3, c4, c5, c6, c7⟩ := cbox_cells q0
  obtain ⟨l0, l1, l2, l3, l4, l5, l6, l7⟩ := cbox_frozen q0
  obtain ⟨d0, d1, d2', d3, d4, d5, d6, d7⟩ := cbox_cells r0
  obtain ⟨m0, m1, m2, m3, m4, m5, m6, m7⟩ := cbox_frozen r0
  obtain ⟨e0, e1, e2, e3, e4, e5, e6, e7⟩ := cbox_cells p0
  go_wp2_with (fail)
  clear hne hne' hnf hnf' c0 c1 c2 c3 c4 c5 c6 c7 l0 l1 l2 l3 l4 l5 l6 l7 d0 d1 d2' d3 d4 d5 d6 d7 m0 m1 m2 m3 m4 m5 m6 m7 e0 e1 e2 e3 e4 e5 e6 e7
  replace f0 := cbox_fr k2 o2 r2 b2 x2 g2 n2 d2 f0 (Or.inl HN.out.2.2)
  replace r0 := cput_other r0 HN.out.1 k2 o2 r2 b2 x2 g2 n2 d2
  refine bodyPost_ret (ret_cap_tmp rfl rfl (cbox_set r0) rfl) rfl ?_
  exact ⟨rfl, cbox_fr _ _ _ _ _ _ _ _ f0 (Or.inl (Nat.le_succ _))⟩

set_option maxRecDepth 100000 in
set_option maxHeartbeats 1600000 in
theorem rmint_m5 (o r b x g n : Int) (d : Bool) (q y g' n' : Int) (k2 o2 r2 b2 x2 g2 n2 : Int) (d2 : Bool) (w : World)
    (Dv : ∀ w, Calls Try.prog 19 #[.agg #[.int .i64 5, .int .i64 o, .int .i64 r, .int .i64 b, .int .i64 x, .int .i64 g, .int .i64 n, .bool d]] w fun e w' => e = .returned (.tuple #[.agg #[.int .i64 5, .int .i64 o, .int .i64 r, .int .i64 b, .int .i64 x, .int .i64 g, .int .i64 n, .bool d], .int .i64 0]) ∧ Fr none' w w')
    (M : ∀ w, Calls Try.prog 17 #[.agg #[.int .i64 5, .int .i64 o, .int .i64 r, .int .i64 b, .int .i64 x, .int .i64 g, .int .i64 n, .bool d], .int .i64 q] w fun e w' => e = .returned (.agg #[.int .i64 k2, .int .i64 o2, .int .i64 r2, .int .i64 b2, .int .i64 x2, .int .i64 g2, .int .i64 n2, .bool d2]) ∧ Fr none' w w') (t : (y != 0) = true) (t1 : (b != 0) = false) (t2 : decide (y < 0) = false) (t3 : decide (1048576 ≤ y) = true) :
    Calls Try.prog 21 #[.agg #[.int .i64 5, .int .i64 o, .int .i64 r, .int .i64 b, .int .i64 x, .int .i64 g, .int .i64 n, .bool d], .int .i64 q, .int .i64 y, .int .i64 g', .int .i64 n'] w fun e w' => e = .returned (.tuple #[.agg #[.int .i64 0, .int .i64 0, .int .i64 0, .int .i64 0, .int .i64 0, .int .i64 0, .int .i64 0, .bool false], .int .i64 1]) ∧ Fr none' w w' := by
  have f0 := ((Fr.refl none' w).alloc (.cells (cbox 5 o r b x g n d) 23)).alloc (.cells (cbox 0 0 0 0 0 0 0 false) 23)
  have p0 := (row_alloc w (cbox 5 o r b x g n d) 23).alloc (.cells (cbox 0 0 0 0 0 0 0 false) 23)
  have r0 := row_alloc1 w (.cells (cbox 5 o r b x g n d) 23) (cbox 0 0 0 0 0 0 0 false) 23
  unfold cbox at f0
  go_enter Try.func21, Try.ntmps21
  go_wp2_with fail
  refine (Dv _).mono ?_
  rintro e w1 ⟨rfl, f1⟩
  replace f0 := f0.trans f1
  replace r0 := r0.keep f1 (fun h => h)
  replace p0 := p0.keep f1 (fun h => h)
  clear f1
  have q0 := row_alloc w1 (cbox 5 o r b x g n d) 23
  have HN : Hid (w1.heap.size ≠ w.heap.size + 1 ∧ w1.heap.size ≠ w.heap.size ∧ w.heap.size ≤ w1.heap.size) := by have := r0.lt; exact ⟨by omega, by omega, by omega⟩
  replace r0 := r0.alloc (.cells (cbox 5 o r b x g n d) 23)
  replace p0 := p0.alloc (.cells (cbox 5 o r b x g n d) 23)
  replace f0 := f0.alloc (.cells (cbox 5 o r b x g n d) 23)
  unfold cbox at f0
  go_wp2_with fail
  refine (M _).mono ?_
  rintro e w2 ⟨rfl, f1⟩
  replace q0 := q0.keep f1 (fun h => h)
  replace r0 := r0.keep f1 (fun h => h)
  replace p0 := p0.keep f1 (fun h => h)
  replace f0 := f0.trans f1
  clear f1
  have hne := HN.out.1
  have hne' := hne.symm
  have hnf := HN.out.2.1
  have hnf' := hnf.symm
  obtain ⟨c0, c1, c2, c3, c4, c5, c6, c7⟩ := cbox_cells q0
  obtain ⟨l0, l1, l2, l3, l4, l5, l6, l7⟩ := cbox_frozen q0
  obtain ⟨d0, d1, d2', d3, d4, d5, d6, d7⟩ := cbox_cells r0
  obtain ⟨m0, m1, m2, m3, m4, m5, m6, m7⟩ := cbox_frozen r0
  obtain ⟨e0, e1, e2, e3, e4, e5, e6, e7⟩ := cbox_cells p0
  go_wp2_with (fail)
  clear hne hne' hnf hnf' c0 c1 c2 c3 c4 c5 c6 c7 l0 l1 l2 l3 l4 l5 l6 l7 d0 d1 d2' d3 d4 d5 d6 d7 m0 m1 m2 m3 m4 m5 m6 m7 e0 e1 e2 e3 e4 e5 e6 e7
  replace f0 := cbox_fr k2 o2 r2 b2 x2 g2 n2 d2 f0 (Or.inl HN.out.2.2)
  replace r0 := cput_other r0 HN.out.1 k2 o2 r2 b2 x2 g2 n2 d2
  refine bodyPost_ret (ret_cap_tmp rfl rfl (cbox_set r0) rfl) rfl ?_
  exact ⟨rfl, cbox_fr _ _ _ _ _ _ _ _ f0 (Or.inl (Nat.le_succ _))⟩

set_option maxRecDepth 100000 in
set_option maxHeartbeats 1600000 in
theorem rmint_gn (o r b x g n : Int) (d : Bool) (q y g' n' : Int) (k2 o2 r2 b2 x2 g2 n2 : Int) (d2 : Bool) (w : World)
    (Dv : ∀ w, Calls Try.prog 19 #[.agg #[.int .i64 2, .int .i64 o, .int .i64 r, .int .i64 b, .int .i64 x, .int .i64 g, .int .i64 n, .bool d]] w fun e w' => e = .returned (.tuple #[.agg #[.int .i64 2, .int .i64 o, .int .i64 r, .int .i64 b, .int .i64 x, .int .i64 g, .int .i64 n, .bool d], .int .i64 0]) ∧ Fr none' w w')
    (M : ∀ w, Calls Try.prog 17 #[.agg #[.int .i64 2, .int .i64 o, .int .i64 r, .int .i64 b, .int .i64 x, .int .i64 g, .int .i64 n, .bool d], .int .i64 q] w fun e w' => e = .returned (.agg #[.int .i64 k2, .int .i64 o2, .int .i64 r2, .int .i64 b2, .int .i64 x2, .int .i64 g2, .int .i64 n2, .bool d2]) ∧ Fr none' w w') (G : ∀ w, Calls Try.prog 27 #[.int .i64 g', .int .i64 n'] w fun e w' => e = .returned (.bool false) ∧ w' = w) :
    Calls Try.prog 21 #[.agg #[.int .i64 2, .int .i64 o, .int .i64 r, .int .i64 b, .int .i64 x, .int .i64 g, .int .i64 n, .bool d], .int .i64 q, .int .i64 y, .int .i64 g', .int .i64 n'] w fun e w' => e = .returned (.tuple #[.agg #[.int .i64 0, .int .i64 0, .int .i64 0, .int .i64 0, .int .i64 0, .int .i64 0, .int .i64 0, .bool false], .int .i64 1]) ∧ Fr none' w w' := by
  have f0 := ((Fr.refl none' w).alloc (.cells (cbox 2 o r b x g n d) 23)).alloc (.cells (cbox 0 0 0 0 0 0 0 false) 23)
  have p0 := (row_alloc w (cbox 2 o r b x g n d) 23).alloc (.cells (cbox 0 0 0 0 0 0 0 false) 23)
  have r0 := row_alloc1 w (.cells (cbox 2 o r b x g n d) 23) (cbox 0 0 0 0 0 0 0 false) 23
  unfold cbox at f0
  go_enter Try.func21, Try.ntmps21
  go_wp2_with fail
  refine (Dv _).mono ?_
  rintro e w1 ⟨rfl, f1⟩
  replace f0 := f0.trans f1
  replace r0 := r0.keep f1 (fun h => h)
  replace p0 := p0.keep f1 (fun h => h)
  clear f1
  have q0 := row_alloc w1 (cbox 2 o r b x g n d) 23
  have HN : Hid (w1.heap.size ≠ w.heap.size + 1 ∧ w1.heap.size ≠ w.heap.size ∧ w.heap.size ≤ w1.heap.size) := by have := r0.lt; exact ⟨by omega, by omega, by omega⟩
  replace r0 := r0.alloc (.cells (cbox 2 o r b x g n d) 23)
  replace p0 := p0.alloc (.cells (cbox 2 o r b x g n d) 23)
  replace f0 := f0.alloc (.cells (cbox 2 o r b x g n d) 23)
  unfold cbox at f0
  go_wp2_with fail
  refine (M _).mono ?_
  rintro e w2 ⟨rfl, f1⟩
  replace q0 := q0.keep f1 (fun h => h)
  replace r0 := r0.keep f1 (fun h => h)
  replace p0 := p0.keep f1 (fun h => h)
  replace f0 := f0.trans f1
  clear f1
  have hne := HN.out.1
  have hne' := hne.symm
  have hnf := HN.out.2.1
  have hnf' := hnf.symm
  obtain ⟨c0, c1, c2, c3, c4, c5, c6, c7⟩ := cbox_cells q0
  obtain ⟨l0, l1, l2, l3, l4, l5, l6, l7⟩ := cbox_frozen q0
  obtain ⟨d0, d1, d2', d3, d4, d5, d6, d7⟩ := cbox_cells r0
  obtain ⟨m0, m1, m2, m3, m4, m5, m6, m7⟩ := cbox_frozen r0
  obtain ⟨e0, e1, e2, e3, e4, e5, e6, e7⟩ := cbox_cells p0
  go_wp2_with (go_at_call 27; refine (G _).mono ?_; rintro e w3 ⟨rfl, rfl⟩)
  clear hne hne' hnf hnf' c0 c1 c2 c3 c4 c5 c6 c7 l0 l1 l2 l3 l4 l5 l6 l7 d0 d1 d2' d3 d4 d5 d6 d7 m0 m1 m2 m3 m4 m5 m6 m7 e0 e1 e2 e3 e4 e5 e6 e7
  replace f0 := cbox_fr k2 o2 r2 b2 x2 g2 n2 d2 f0 (Or.inl HN.out.2.2)
  replace r0 := cput_other r0 HN.out.1 k2 o2 r2 b2 x2 g2 n2 d2
  refine bodyPost_ret (ret_cap_tmp rfl rfl (cbox_set r0) rfl) rfl ?_
  exact ⟨rfl, cbox_fr _ _ _ _ _ _ _ _ f0 (Or.inl (Nat.le_succ _))⟩

set_option maxRecDepth 100000 in
set_option maxHeartbeats 1600000 in
theorem rmint_els (k : Int) (o r b x g n : Int) (d : Bool) (q y g' n' : Int) (k2 o2 r2 b2 x2 g2 n2 : Int) (d2 : Bool) (w : World)
    (Dv : ∀ w, Calls Try.prog 19 #[.agg #[.int .i64 k, .int .i64 o, .int .i64 r, .int .i64 b, .int .i64 x, .int .i64 g, .int .i64 n, .bool d]] w fun e w' => e = .returned (.tuple #[.agg #[.int .i64 k, .int .i64 o, .int .i64 r, .int .i64 b, .int .i64 x, .int .i64 g, .int .i64 n, .bool d], .int .i64 0]) ∧ Fr none' w w')
    (M : ∀ w, Calls Try.prog 17 #[.agg #[.int .i64 k, .int .i64 o, .int .i64 r, .int .i64 b, .int .i64 x, .int .i64 g, .int .i64 n, .bool d], .int .i64 q] w fun e w' => e = .returned (.agg #[.int .i64 k2, .int .i64 o2, .int .i64 r2, .int .i64 b2, .int .i64 x2, .int .i64 g2, .int .i64 n2, .bool d2]) ∧ Fr none' w w') (t4 : (k == 4) = false) (t5 : (k == 5) = false) (t2 : (k == 2) = false) :
    Calls Try.prog 21 #[.agg #[.int .i64 k, .int .i64 o, .int .i64 r, .int .i64 b, .int .i64 x, .int .i64 g, .int .i64 n, .bool d], .int .i64 q, .int .i64 y, .int .i64 g', .int .i64 n'] w fun e w' => e = .returned (.tuple #[.agg #[.int .i64 k2, .int .i64 o2, .int .i64 r2, .int .i64 b2, .int .i64 x2, .int .i64 g2, .int .i64 n2, .bool d2], .int .i64 0]) ∧ Fr none' w w' := by
  have f0 := ((Fr.refl none' w).alloc (.cells (cbox k o r b x g n d) 23)).alloc (.cells (cbox 0 0 0 0 0 0 0 false) 23)
  have p0 := (row_alloc w (cbox k o r b x g n d) 23).alloc (.cells (cbox 0 0 0 0 0 0 0 false) 23)
  have r0 := row_alloc1 w (.cells (cbox k o r b x g n d) 23) (cbox 0 0 0 0 0 0 0 false) 23
  unfold cbox at f0
  go_enter Try.func21, Try.ntmps21
  go_wp2_with fail
  refine (Dv _).mono ?_
  rintro e w1 ⟨rfl, f1⟩
  replace f0 := f0.trans f1
  replace r0 := r0.keep f1 (fun h => h)
  replace p0 := p0.keep f1 (fun h => h)
  clear f1
  have q0 := row_alloc w1 (cbox k o r b x g n d) 23
  have HN : Hid (w1.heap.size ≠ w.heap.size + 1 ∧ w1.heap.size ≠ w.heap.size ∧ w.heap.size ≤ w1.heap.size) := by have := r0.lt; exact ⟨by omega, by omega, by omega⟩
  replace r0 := r0.alloc (.cells (cbox k o r b x g n d) 23)
  replace p0 := p0.alloc (.cells (cbox k o r b x g n d) 23)
  replace f0 := f0.alloc (.cells (cbox k o r b x g n d) 23)
  unfold cbox at f0
  go_wp2_with fail
  refine (M _).mono ?_
  rintro e w2 ⟨rfl, f1⟩
  replace q0 := q0.keep f1 (fun h => h)
  replace r0 := r0.keep f1 (fun h => h)
  replace p0 := p0.keep f1 (fun h => h)
  replace f0 := f0.trans f1
  clear f1
  have hne := HN.out.1
  have hne' := hne.symm
  have hnf := HN.out.2.1
  have hnf' := hnf.symm
  obtain ⟨c0, c1, c2, c3, c4, c5, c6, c7⟩ := cbox_cells q0
  obtain ⟨l0, l1, l2, l3, l4, l5, l6, l7⟩ := cbox_frozen q0
  obtain ⟨d0, d1, d2', d3, d4, d5, d6, d7⟩ := cbox_cells r0
  obtain ⟨m0, m1, m2, m3, m4, m5, m6, m7⟩ := cbox_frozen r0
  obtain ⟨e0, e1, e2, e3, e4, e5, e6, e7⟩ := cbox_cells p0
  go_wp2_with (fail)
  clear hne hne' hnf hnf' c0 c1 c2 c3 c4 c5 c6 c7 l0 l1 l2 l3 l4 l5 l6 l7 d0 d1 d2' d3 d4 d5 d6 d7 m0 m1 m2 m3 m4 m5 m6 m7 e0 e1 e2 e3 e4 e5 e6 e7
  replace f0 := cbox_fr k2 o2 r2 b2 x2 g2 n2 d2 f0 (Or.inl HN.out.2.2)
  replace r0 := cput_other r0 HN.out.1 k2 o2 r2 b2 x2 g2 n2 d2
  refine bodyPost_ret (ret_cap_tmp rfl rfl (cbox_set r0) rfl) rfl ?_
  exact ⟨rfl, cbox_fr _ _ _ _ _ _ _ _ f0 (Or.inl (Nat.le_succ _))⟩

end Go.Proofs.Ytiiiiapaggkdkaa
