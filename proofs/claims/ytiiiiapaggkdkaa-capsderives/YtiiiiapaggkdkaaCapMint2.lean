/-
  Contracts of package caps' Mint and Same over the translation. No statement is proved here.
-/
import Derived.Test.YtiiiiapaggkdkaaCapMint
namespace Go.Proofs.Ytiiiiapaggkdkaa
open Go.RowKit

set_option maxHeartbeats 1600000 in
theorem mint_gua (k o r b x g n : Int) (d : Bool) (q y g' n' : Int) (w : World) (h : refE k = 0) (hk : k = 2) : Calls Try.prog 20 #[.agg #[.int .i64 k, .int .i64 o, .int .i64 r, .int .i64 b, .int .i64 x, .int .i64 g, .int .i64 n, .bool d], .int .i64 q, .int .i64 y, .int .i64 g', .int .i64 n'] w fun e w' => e = .returned (.tuple #[.agg #[.int .i64 (guaC (maskC (K.mk k o r b x g n d) q) g' n').k, .int .i64 (guaC (maskC (K.mk k o r b x g n d) q) g' n').o, .int .i64 (guaC (maskC (K.mk k o r b x g n d) q) g' n').r, .int .i64 (guaC (maskC (K.mk k o r b x g n d) q) g' n').b, .int .i64 (guaC (maskC (K.mk k o r b x g n d) q) g' n').x, .int .i64 (guaC (maskC (K.mk k o r b x g n d) q) g' n').g, .int .i64 (guaC (maskC (K.mk k o r b x g n d) q) g' n').n, .bool (guaC (maskC (K.mk k o r b x g n d) q) g' n').d], .int .i64 (guaE g' n')]) ∧ Fr none' w w' := by
  subst hk
  have D := derive_any 2 o r b x g n d
  have e : derC (K.mk 2 o r b x g n d) = (K.mk 2 o r b x g n d) := by unfold derC; rw [if_pos h]
  rw [e, h] at D
  replace D : ∀ w, Calls Try.prog 18 #[.agg #[.int .i64 2, .int .i64 o, .int .i64 r, .int .i64 b, .int .i64 x, .int .i64 g, .int .i64 n, .bool d]] w fun e w' => e = .returned (.tuple #[.agg #[.int .i64 2, .int .i64 o, .int .i64 r, .int .i64 b, .int .i64 x, .int .i64 g, .int .i64 n, .bool d], .int .i64 0]) ∧ Fr none' w w' := D
  have M := mask_any 2 o r b x g n d q
  have mk := mask_k (K.mk 2 o r b x g n d) q
  clear e h
  generalize maskC (K.mk 2 o r b x g n d) q = m at *
  have X := fun w => wguard_any m.k m.o m.r m.b m.x m.g m.n m.d g' n' w
  obtain ⟨k2, o2, r2, b2, x2, g2, n2, d2⟩ := m
  dsimp only at mk M X
  subst mk
  have f0 := ((Fr.refl none' w).alloc (.cells (cbox 2 o r b x g n d) 23)).alloc (.cells (cbox 0 0 0 0 0 0 0 false) 23)
  have p0 := (row_alloc w (cbox 2 o r b x g n d) 23).alloc (.cells (cbox 0 0 0 0 0 0 0 false) 23)
  have r0 := row_alloc1 w (.cells (cbox 2 o r b x g n d) 23) (cbox 0 0 0 0 0 0 0 false) 23
  unfold cbox at f0
  go_enter Try.func20, Try.ntmps20
  go_wp2_with fail
  refine (D _).mono ?_
  rintro e w1 ⟨rfl, f1⟩
  replace f0 := f0.trans f1
  replace r0 := r0.keep f1 (fun h => h)
  replace p0 := p0.keep f1 (fun h => h)
  clear f1
  have q0 := row_alloc w1 (cbox 2 o r b x g n d) 23
  have HN : Hid (w1.heap.size ≠ w.heap.size + 1 ∧ w.heap.size ≤ w1.heap.size) := by have := r0.lt; exact ⟨by omega, by omega⟩
  replace r0 := r0.alloc (.cells (cbox 2 o r b x g n d) 23)
  replace f0 := f0.alloc (.cells (cbox 2 o r b x g n d) 23)
  unfold cbox at f0
  clear p0
  go_wp2_with fail
  refine (M _).mono ?_
  rintro e w2 ⟨rfl, f1⟩
  replace q0 := q0.keep f1 (fun h => h)
  replace r0 := r0.keep f1 (fun h => h)
  replace f0 := f0.trans f1
  clear f1
  obtain ⟨c0, c1, c2, c3, c4, c5, c6, c7⟩ := cbox_cells q0
  obtain ⟨k0, k1, k3, k4, k5, k6, k7, k8⟩ := cbox_frozen q0
  go_wp2_with fail
  refine (X _).mono ?_
  rintro e w3 ⟨rfl, f1⟩
  replace f0 := cbox_fr 2 o2 r2 b2 x2 g2 n2 d2 f0 (Or.inl HN.out.2)
  have Q := cbox_set (k' := 2) (o' := o2) (r' := r2) (b' := b2) (x' := x2) (g' := g2) (n' := n2) (d' := d2) q0
  replace r0 := cput_other r0 HN.out.1 2 o2 r2 b2 x2 g2 n2 d2
  clear q0 c0 c1 c2 c3 c4 c5 c6 c7 k0 k1 k3 k4 k5 k6 k7 k8
  replace f0 := f0.trans f1
  replace r0 := r0.keep f1 (fun h => h)
  clear f1 Q
  obtain ⟨c0, c1, c2, c3, c4, c5, c6, c7⟩ := cbox_cells r0
  obtain ⟨k0, k1, k3, k4, k5, k6, k7, k8⟩ := cbox_frozen r0
  go_wp2_with fail
  refine bodyPost_ret (ret_cap_tmp rfl rfl (cbox_set r0) rfl) rfl ?_
  exact ⟨rfl, cbox_fr _ _ _ _ _ _ _ _ f0 (Or.inl (Nat.le_succ _))⟩

set_option maxHeartbeats 1600000 in
theorem mint_els (k o r b x g n : Int) (d : Bool) (q y g' n' : Int) (w : World) (h : refE k = 0) (t4 : (k == 4) = false) (t5 : (k == 5) = false) (t2 : (k == 2) = false) : Calls Try.prog 20 #[.agg #[.int .i64 k, .int .i64 o, .int .i64 r, .int .i64 b, .int .i64 x, .int .i64 g, .int .i64 n, .bool d], .int .i64 q, .int .i64 y, .int .i64 g', .int .i64 n'] w fun e w' => e = .returned (.tuple #[.agg #[.int .i64 (maskC (K.mk k o r b x g n d) q).k, .int .i64 (maskC (K.mk k o r b x g n d) q).o, .int .i64 (maskC (K.mk k o r b x g n d) q).r, .int .i64 (maskC (K.mk k o r b x g n d) q).b, .int .i64 (maskC (K.mk k o r b x g n d) q).x, .int .i64 (maskC (K.mk k o r b x g n d) q).g, .int .i64 (maskC (K.mk k o r b x g n d) q).n, .bool (maskC (K.mk k o r b x g n d) q).d], .int .i64 0]) ∧ Fr none' w w' := by
  have D := derive_any k o r b x g n d
  have e : derC (K.mk k o r b x g n d) = (K.mk k o r b x g n d) := by unfold derC; rw [if_pos h]
  rw [e, h] at D
  replace D : ∀ w, Calls Try.prog 18 #[.agg #[.int .i64 k, .int .i64 o, .int .i64 r, .int .i64 b, .int .i64 x, .int .i64 g, .int .i64 n, .bool d]] w fun e w' => e = .returned (.tuple #[.agg #[.int .i64 k, .int .i64 o, .int .i64 r, .int .i64 b, .int .i64 x, .int .i64 g, .int .i64 n, .bool d], .int .i64 0]) ∧ Fr none' w w' := D
  have M := mask_any k o r b x g n d q
  have mk := mask_k (K.mk k o r b x g n d) q
  clear e h
  generalize maskC (K.mk k o r b x g n d) q = m at *
  have X := True.intro
  obtain ⟨k2, o2, r2, b2, x2, g2, n2, d2⟩ := m
  dsimp only at mk M X
  subst mk
  have f0 := ((Fr.refl none' w).alloc (.cells (cbox k2 o r b x g n d) 23)).alloc (.cells (cbox 0 0 0 0 0 0 0 false) 23)
  have p0 := (row_alloc w (cbox k2 o r b x g n d) 23).alloc (.cells (cbox 0 0 0 0 0 0 0 false) 23)
  have r0 := row_alloc1 w (.cells (cbox k2 o r b x g n d) 23) (cbox 0 0 0 0 0 0 0 false) 23
  unfold cbox at f0
  go_enter Try.func20, Try.ntmps20
  go_wp2_with fail
  refine (D _).mono ?_
  rintro e w1 ⟨rfl, f1⟩
  replace f0 := f0.trans f1
  replace r0 := r0.keep f1 (fun h => h)
  replace p0 := p0.keep f1 (fun h => h)
  clear f1
  have q0 := row_alloc w1 (cbox k2 o r b x g n d) 23
  have HN : Hid (w1.heap.size ≠ w.heap.size + 1 ∧ w.heap.size ≤ w1.heap.size) := by have := r0.lt; exact ⟨by omega, by omega⟩
  replace r0 := r0.alloc (.cells (cbox k2 o r b x g n d) 23)
  replace f0 := f0.alloc (.cells (cbox k2 o r b x g n d) 23)
  unfold cbox at f0
  clear p0
  go_wp2_with fail
  refine (M _).mono ?_
  rintro e w2 ⟨rfl, f1⟩
  replace q0 := q0.keep f1 (fun h => h)
  replace r0 := r0.keep f1 (fun h => h)
  replace f0 := f0.trans f1
  clear f1
  obtain ⟨c0, c1, c2, c3, c4, c5, c6, c7⟩ := cbox_cells q0
  obtain ⟨k0, k1, k3, k4, k5, k6, k7, k8⟩ := cbox_frozen q0
  have hne := HN.out.1
  have hne' := hne.symm
  obtain ⟨d0, d1, d2', d3, d4, d5, d6, d7⟩ := cbox_cells r0
  obtain ⟨l0, l1, l2, l3, l4, l5, l6, l7⟩ := cbox_frozen r0
  go_wp2_with fail
  replace f0 := cbox_fr k2 o2 r2 b2 x2 g2 n2 d2 f0 (Or.inl HN.out.2)
  have Q := cbox_set (k' := k2) (o' := o2) (r' := r2) (b' := b2) (x' := x2) (g' := g2) (n' := n2) (d' := d2) q0
  replace r0 := cput_other r0 HN.out.1 k2 o2 r2 b2 x2 g2 n2 d2
  clear q0 c0 c1 c2 c3 c4 c5 c6 c7 k0 k1 k3 k4 k5 k6 k7 k8
  refine bodyPost_ret (ret_cap_tmp rfl rfl (cbox_set r0) rfl) rfl ?_
  exact ⟨rfl, cbox_fr _ _ _ _ _ _ _ _ f0 (Or.inl (Nat.le_succ _))⟩

theorem mint_any (k o r b x g n : Int) (d : Bool) (q y g' n' : Int) (w : World) : Calls Try.prog 20 #[.agg #[.int .i64 k, .int .i64 o, .int .i64 r, .int .i64 b, .int .i64 x, .int .i64 g, .int .i64 n, .bool d], .int .i64 q, .int .i64 y, .int .i64 g', .int .i64 n'] w fun e w' => e = .returned (.tuple #[.agg #[.int .i64 (mintC (K.mk k o r b x g n d) q y g' n').k, .int .i64 (mintC (K.mk k o r b x g n d) q y g' n').o, .int .i64 (mintC (K.mk k o r b x g n d) q y g' n').r, .int .i64 (mintC (K.mk k o r b x g n d) q y g' n').b, .int .i64 (mintC (K.mk k o r b x g n d) q y g' n').x, .int .i64 (mintC (K.mk k o r b x g n d) q y g' n').g, .int .i64 (mintC (K.mk k o r b x g n d) q y g' n').n, .bool (mintC (K.mk k o r b x g n d) q y g' n').d], .int .i64 (mintE (K.mk k o r b x g n d) y g' n')]) ∧ Fr none' w w' := by
  unfold mintC mintE
  dsimp only
  rcases mint_cases k with h | ⟨h, hk⟩ | rfl | ⟨h, h4, h5, h2⟩
  · rw [if_neg h, if_neg h]; exact mint_ref k o r b x g n d q y g' n' w h
  · rw [if_pos h, if_pos h, if_pos hk, if_pos hk, ← mask_badE _ q]; exact mint_bad k o r b x g n d q y g' n' w h hk
  · exact mint_gua 2 o r b x g n d q y g' n' w rfl rfl
  · have h45 : ¬(k = 4 ∨ k = 5) := by omega
    rw [if_pos h, if_pos h, if_neg h45, if_neg h45, if_neg h2, if_neg h2]
    exact mint_els k o r b x g n d q y g' n' w h (by simpa using h4) (by simpa using h5) (by simpa using h2)

end Go.Proofs.Ytiiiiapaggkdkaa
