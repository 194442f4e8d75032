/-
  Contracts of package caps' Mask, Derive, Mint and Same over the translation. No statement is proved here.
-/
import Derived.Test.YtiiiiapaggkdkaaCapDec
namespace Go.Proofs.Ytiiiiapaggkdkaa
open Go.RowKit

set_option maxHeartbeats 1600000 in
theorem mask_any (k o r b x g n : Int) (d : Bool) (q : Int) (w : World) : Calls Try.prog 16 #[.agg #[.int .i64 k, .int .i64 o, .int .i64 r, .int .i64 b, .int .i64 x, .int .i64 g, .int .i64 n, .bool d], .int .i64 q] w fun e w' => e = .returned (.agg #[.int .i64 (maskC (K.mk k o r b x g n d) q).k, .int .i64 (maskC (K.mk k o r b x g n d) q).o, .int .i64 (maskC (K.mk k o r b x g n d) q).r, .int .i64 (maskC (K.mk k o r b x g n d) q).b, .int .i64 (maskC (K.mk k o r b x g n d) q).x, .int .i64 (maskC (K.mk k o r b x g n d) q).g, .int .i64 (maskC (K.mk k o r b x g n d) q).n, .bool (maskC (K.mk k o r b x g n d) q).d]) ∧ Fr none' w w' := by
  by_cases hk : k = 4 ∨ k = 5 ∨ k = 6
  · rcases hk with rfl | rfl | rfl
    all_goals
      go_enter Try.func16, Try.ntmps16
      go_wp2
      refine bodyPost_ret (ret_cap rfl rfl (row_alloc1 _ _ _ _) rfl) rfl ?_
      exact ⟨rfl, ((Fr.refl _ _).alloc _).alloc _⟩
  · have t4 : (k == 4) = false := by rw [beq_eq_false_iff_ne]; omega
    have t5 : (k == 5) = false := by rw [beq_eq_false_iff_ne]; omega
    have t6 : (k == 6) = false := by rw [beq_eq_false_iff_ne]; omega
    have e : maskC (K.mk k o r b x g n d) q = (K.mk k o r b x g n d) := by unfold maskC; rw [if_neg hk]
    rw [e]
    clear e hk
    go_enter Try.func16, Try.ntmps16
    go_wp2
    refine bodyPost_ret (ret_cap rfl rfl (row_alloc1 _ _ _ _) rfl) rfl ?_
    exact ⟨rfl, ((Fr.refl _ _).alloc _).alloc _⟩

set_option maxHeartbeats 1600000 in
theorem derive_any (k o r b x g n : Int) (d : Bool) (w : World) : Calls Try.prog 18 #[.agg #[.int .i64 k, .int .i64 o, .int .i64 r, .int .i64 b, .int .i64 x, .int .i64 g, .int .i64 n, .bool d]] w fun e w' => e = .returned (.tuple #[.agg #[.int .i64 (derC (K.mk k o r b x g n d)).k, .int .i64 (derC (K.mk k o r b x g n d)).o, .int .i64 (derC (K.mk k o r b x g n d)).r, .int .i64 (derC (K.mk k o r b x g n d)).b, .int .i64 (derC (K.mk k o r b x g n d)).x, .int .i64 (derC (K.mk k o r b x g n d)).g, .int .i64 (derC (K.mk k o r b x g n d)).n, .bool (derC (K.mk k o r b x g n d)).d], .int .i64 (refE k)]) ∧ Fr none' w w' := by
  have R := refusal_any k
  unfold derC
  dsimp only
  by_cases h : refE k = 0
  · rw [if_pos h]
    rw [h] at R ⊢
    clear h
    go_enter Try.func18, Try.ntmps18
    go_wp2_with (go_at_call 29; refine (R _).mono ?_; rintro e w1 ⟨rfl, rfl⟩)
    refine bodyPost_ret (ret_cap_tmp rfl rfl (row_alloc1 _ _ _ _) rfl) rfl ?_
    exact ⟨rfl, ((Fr.refl _ _).alloc _).alloc _⟩
  · rw [if_neg h]
    have t1 : (refE k != 0) = true := by simpa using h
    clear h
    generalize refE k = z at *
    go_enter Try.func18, Try.ntmps18
    go_wp2_with (go_at_call 29; refine (R _).mono ?_; rintro e w1 ⟨rfl, rfl⟩)
    refine bodyPost_ret (ret_cap_tmp rfl rfl (row_alloc1 _ _ _ _) rfl) rfl ?_
    exact ⟨rfl, ((Fr.refl _ _).alloc _).alloc _⟩

theorem badE_none (c : K) : badE c 0 = 0 := by unfold badE; rw [if_pos rfl]
theorem badC_none (c : K) : badC c 0 = c := by unfold badC; rw [badE_none, if_pos rfl, if_pos rfl]
theorem badE_had {c : K} {y : Int} (h : y ≠ 0) (h' : c.b ≠ 0) : badE c y = 110 := by unfold badE; rw [if_neg h, if_pos h']
theorem badC_had {c : K} {y : Int} (h : y ≠ 0) (h' : c.b ≠ 0) : badC c y = K0 := by unfold badC; rw [badE_had h h', if_neg (by omega)]
theorem badE_out {c : K} {y : Int} (h : y ≠ 0) (h' : c.b = 0) (hb : bOk y = false) : badE c y = 1 := by unfold badE; rw [if_neg h, if_neg (by simpa using h'), hb, if_neg (by simp)]
theorem badC_out {c : K} {y : Int} (h : y ≠ 0) (h' : c.b = 0) (hb : bOk y = false) : badC c y = K0 := by unfold badC; rw [badE_out h h' hb, if_neg (by omega)]
theorem badE_in {c : K} {y : Int} (h : y ≠ 0) (h' : c.b = 0) (hb : bOk y = true) : badE c y = 0 := by unfold badE; rw [if_neg h, if_neg (by simpa using h'), hb, if_pos rfl]
theorem badC_in {c : K} {y : Int} (h : y ≠ 0) (h' : c.b = 0) (hb : bOk y = true) : badC c y = ⟨c.k, c.o, c.r, y, c.x, c.g, c.n, c.d⟩ := by unfold badC; rw [badE_in h h' hb, if_pos rfl, if_neg h]

set_option maxHeartbeats 1600000 in
theorem wbadge_any (k o r b x g n : Int) (d : Bool) (y : Int) (w : World) : Calls Try.prog 30 #[.agg #[.int .i64 k, .int .i64 o, .int .i64 r, .int .i64 b, .int .i64 x, .int .i64 g, .int .i64 n, .bool d], .int .i64 y] w fun e w' => e = .returned (.tuple #[.agg #[.int .i64 (badC (K.mk k o r b x g n d) y).k, .int .i64 (badC (K.mk k o r b x g n d) y).o, .int .i64 (badC (K.mk k o r b x g n d) y).r, .int .i64 (badC (K.mk k o r b x g n d) y).b, .int .i64 (badC (K.mk k o r b x g n d) y).x, .int .i64 (badC (K.mk k o r b x g n d) y).g, .int .i64 (badC (K.mk k o r b x g n d) y).n, .bool (badC (K.mk k o r b x g n d) y).d], .int .i64 (badE (K.mk k o r b x g n d) y)]) ∧ Fr none' w w' := by
  have B := badge_any y
  by_cases h1 : y = 0
  · subst h1
    rw [badE_none, badC_none]
    go_enter Try.func30, Try.ntmps30
    go_wp2
    refine bodyPost_ret (ret_cap_tmp rfl rfl (row_alloc1 _ _ _ _) rfl) rfl ?_
    exact ⟨rfl, ((Fr.refl _ _).alloc _).alloc _⟩
  have t1 : (y == 0) = false := by simpa using h1
  by_cases h2 : b = 0
  · subst h2
    cases h3 : bOk y
    · rw [badE_out h1 rfl h3, badC_out h1 rfl h3]
      rw [h3] at B
      clear h1 h3
      go_enter Try.func30, Try.ntmps30
      go_wp2_with (go_at_call 36; refine (B _).mono ?_; rintro e w1 ⟨rfl, rfl⟩)
      refine bodyPost_ret (ret_cap_tmp rfl rfl (row_alloc1 _ _ _ _) rfl) rfl ?_
      exact ⟨rfl, ((Fr.refl _ _).alloc _).alloc _⟩
    · rw [badE_in h1 rfl h3, badC_in h1 rfl h3]
      rw [h3] at B
      clear h1 h3
      go_enter Try.func30, Try.ntmps30
      go_wp2_with (go_at_call 36; refine (B _).mono ?_; rintro e w1 ⟨rfl, rfl⟩)
      refine bodyPost_ret (ret_cap_tmp rfl rfl (row_alloc1 _ _ _ _) rfl) rfl ?_
      exact ⟨rfl, ((Fr.refl _ _).alloc _).alloc _⟩
  · have t2 : (b != 0) = true := by simpa using h2
    rw [badE_had h1 h2, badC_had h1 h2]
    clear h1 h2
    go_enter Try.func30, Try.ntmps30
    go_wp2
    refine bodyPost_ret (ret_cap_tmp rfl rfl (row_alloc1 _ _ _ _) rfl) rfl ?_
    exact ⟨rfl, ((Fr.refl _ _).alloc _).alloc _⟩

set_option maxHeartbeats 1600000 in
theorem wguard_any (k o r b x g n : Int) (d : Bool) (g' n' : Int) (w : World) : Calls Try.prog 31 #[.agg #[.int .i64 k, .int .i64 o, .int .i64 r, .int .i64 b, .int .i64 x, .int .i64 g, .int .i64 n, .bool d], .int .i64 g', .int .i64 n'] w fun e w' => e = .returned (.tuple #[.agg #[.int .i64 (guaC (K.mk k o r b x g n d) g' n').k, .int .i64 (guaC (K.mk k o r b x g n d) g' n').o, .int .i64 (guaC (K.mk k o r b x g n d) g' n').r, .int .i64 (guaC (K.mk k o r b x g n d) g' n').b, .int .i64 (guaC (K.mk k o r b x g n d) g' n').x, .int .i64 (guaC (K.mk k o r b x g n d) g' n').g, .int .i64 (guaC (K.mk k o r b x g n d) g' n').n, .bool (guaC (K.mk k o r b x g n d) g' n').d], .int .i64 (guaE g' n')]) ∧ Fr none' w w' := by
  have B := guard_any g' n'
  unfold guaC guaE
  cases h3 : gOk g' n'
  all_goals rw [h3] at B
  all_goals clear h3
  all_goals go_enter Try.func31, Try.ntmps31
  all_goals go_wp2_with (go_at_call 35; refine (B _).mono ?_; rintro e w1 ⟨rfl, rfl⟩)
  all_goals refine bodyPost_ret (ret_cap_tmp rfl rfl (row_alloc1 _ _ _ _) rfl) rfl ?_
  all_goals exact ⟨rfl, ((Fr.refl _ _).alloc _).alloc _⟩

theorem mask_k (c : K) (q : Int) : (maskC c q).k = c.k := by unfold maskC; split <;> rfl
theorem mask_b (c : K) (q : Int) : (maskC c q).b = c.b := by unfold maskC; split <;> rfl
theorem mask_badE (c : K) (q b : Int) : badE (maskC c q) b = badE c b := by unfold badE; rw [mask_b]

theorem mint_cases (k : Int) : refE k ≠ 0 ∨ (refE k = 0 ∧ (k = 4 ∨ k = 5)) ∨ k = 2 ∨ (refE k = 0 ∧ k ≠ 4 ∧ k ≠ 5 ∧ k ≠ 2) := by
  by_cases h : refE k = 0
  · by_cases h4 : k = 4 ∨ k = 5
    · exact Or.inr (Or.inl ⟨h, h4⟩)
    · by_cases h2 : k = 2
      · exact Or.inr (Or.inr (Or.inl h2))
      · exact Or.inr (Or.inr (Or.inr ⟨h, by omega, by omega, h2⟩))
  · exact Or.inl h

set_option maxHeartbeats 1600000 in
theorem mint_ref (k o r b x g n : Int) (d : Bool) (q y g' n' : Int) (w : World) (h : refE k ≠ 0) : Calls Try.prog 20 #[.agg #[.int .i64 k, .int .i64 o, .int .i64 r, .int .i64 b, .int .i64 x, .int .i64 g, .int .i64 n, .bool d], .int .i64 q, .int .i64 y, .int .i64 g', .int .i64 n'] w fun e w' => e = .returned (.tuple #[.agg #[.int .i64 0, .int .i64 0, .int .i64 0, .int .i64 0, .int .i64 0, .int .i64 0, .int .i64 0, .bool false], .int .i64 (refE k)]) ∧ Fr none' w w' := by
  have D := derive_any k o r b x g n d
  have e : derC (K.mk k o r b x g n d) = K0 := by unfold derC; rw [if_neg h]
  rw [e] at D
  have t1 : (refE k != 0) = true := by simpa using h
  clear e h
  generalize refE k = z at *
  replace D : ∀ w, Calls Try.prog 18 #[.agg #[.int .i64 k, .int .i64 o, .int .i64 r, .int .i64 b, .int .i64 x, .int .i64 g, .int .i64 n, .bool d]] w fun e w' => e = .returned (.tuple #[.agg #[.int .i64 0, .int .i64 0, .int .i64 0, .int .i64 0, .int .i64 0, .int .i64 0, .int .i64 0, .bool false], .int .i64 z]) ∧ Fr none' w w' := D
  have f0 := ((Fr.refl none' w).alloc (.cells (cbox k o r b x g n d) 23)).alloc (.cells (cbox 0 0 0 0 0 0 0 false) 23)
  have p0 := (row_alloc w (cbox k o r b x g n d) 23).alloc (.cells (cbox 0 0 0 0 0 0 0 false) 23)
  have r0 := row_alloc1 w (.cells (cbox k o r b x g n d) 23) (cbox 0 0 0 0 0 0 0 false) 23
  unfold cbox at f0
  go_enter Try.func20, Try.ntmps20
  go_wp2_with fail
  refine (D _).mono ?_
  rintro e w1 ⟨rfl, f1⟩
  replace f0 := f0.trans f1
  replace r0 := r0.keep f1 (fun h => h)
  replace p0 := p0.keep f1 (fun h => h)
  clear f1
  replace r0 := r0.alloc (.cells (cbox 0 0 0 0 0 0 0 false) 23)
  replace f0 := f0.alloc (.cells (cbox 0 0 0 0 0 0 0 false) 23)
  unfold cbox at f0
  obtain ⟨c0, c1, c2, c3, c4, c5, c6, c7⟩ := cbox_cells r0
  obtain ⟨k0, k1, k2, k3, k4, k5, k6, k7⟩ := cbox_frozen r0
  unfold cbox at c0 c1 c2 c3 c4 c5 c6 c7 k0 k1 k2 k3 k4 k5 k6 k7
  go_wp2_with fail
  refine bodyPost_ret (ret_cap_tmp rfl rfl (cbox_set r0) rfl) rfl ?_
  exact ⟨rfl, cbox_fr _ _ _ _ _ _ _ _ f0 (Or.inl (Nat.le_succ _))⟩

set_option maxHeartbeats 1600000 in
theorem mint_bad (k o r b x g n : Int) (d : Bool) (q y g' n' : Int) (w : World) (h : refE k = 0) (hk : k = 4 ∨ k = 5) : Calls Try.prog 20 #[.agg #[.int .i64 k, .int .i64 o, .int .i64 r, .int .i64 b, .int .i64 x, .int .i64 g, .int .i64 n, .bool d], .int .i64 q, .int .i64 y, .int .i64 g', .int .i64 n'] w fun e w' => e = .returned (.tuple #[.agg #[.int .i64 (badC (maskC (K.mk k o r b x g n d) q) y).k, .int .i64 (badC (maskC (K.mk k o r b x g n d) q) y).o, .int .i64 (badC (maskC (K.mk k o r b x g n d) q) y).r, .int .i64 (badC (maskC (K.mk k o r b x g n d) q) y).b, .int .i64 (badC (maskC (K.mk k o r b x g n d) q) y).x, .int .i64 (badC (maskC (K.mk k o r b x g n d) q) y).g, .int .i64 (badC (maskC (K.mk k o r b x g n d) q) y).n, .bool (badC (maskC (K.mk k o r b x g n d) q) y).d], .int .i64 (badE (maskC (K.mk k o r b x g n d) q) y)]) ∧ Fr none' w w' := by
  have D := derive_any k o r b x g n d
  have e : derC (K.mk k o r b x g n d) = (K.mk k o r b x g n d) := by unfold derC; rw [if_pos h]
  rw [e, h] at D
  replace D : ∀ w, Calls Try.prog 18 #[.agg #[.int .i64 k, .int .i64 o, .int .i64 r, .int .i64 b, .int .i64 x, .int .i64 g, .int .i64 n, .bool d]] w fun e w' => e = .returned (.tuple #[.agg #[.int .i64 k, .int .i64 o, .int .i64 r, .int .i64 b, .int .i64 x, .int .i64 g, .int .i64 n, .bool d], .int .i64 0]) ∧ Fr none' w w' := D
  have M := mask_any k o r b x g n d q
  have mk := mask_k (K.mk k o r b x g n d) q
  clear e h
  generalize maskC (K.mk k o r b x g n d) q = m at *
  have X := fun w => wbadge_any m.k m.o m.r m.b m.x m.g m.n m.d y w
  obtain ⟨k2, o2, r2, b2, x2, g2, n2, d2⟩ := m
  dsimp only at mk M X
  subst mk
  have f0 := ((Fr.refl none' w).alloc (.cells (cbox k2 o r b x g n d) 23)).alloc (.cells (cbox 0 0 0 0 0 0 0 false) 23)
  have p0 := (row_alloc w (cbox k2 o r b x g n d) 23).alloc (.cells (cbox 0 0 0 0 0 0 0 false) 23)
  have r0 := row_alloc1 w (.cells (cbox k2 o r b x g n d) 23) (cbox 0 0 0 0 0 0 0 false) 23
  unfold cbox at f0
  go_enter Try.func20, Try.ntmps20
  go_wp2_with fail
  refine (D _).mono ?_
  rintro e w1 ⟨rfl, f1⟩
  replace f0 := f0.trans f1
  replace r0 := r0.keep f1 (fun h => h)
  replace p0 := p0.keep f1 (fun h => h)
  clear f1
  have q0 := row_alloc w1 (cbox k2 o r b x g n d) 23
  have HN : Hid (w1.heap.size ≠ w.heap.size + 1 ∧ w.heap.size ≤ w1.heap.size) := by have := r0.lt; exact ⟨by omega, by omega⟩
  replace r0 := r0.alloc (.cells (cbox k2 o r b x g n d) 23)
  replace f0 := f0.alloc (.cells (cbox k2 o r b x g n d) 23)
  unfold cbox at f0
  clear p0
  go_wp2_with fail
  refine (M _).mono ?_
  rintro e w2 ⟨rfl, f1⟩
  replace q0 := q0.keep f1 (fun h => h)
  replace r0 := r0.keep f1 (fun h => h)
  replace f0 := f0.trans f1
  clear f1
  obtain ⟨c0, c1, c2, c3, c4, c5, c6, c7⟩ := cbox_cells q0
  obtain ⟨k0, k1, k3, k4, k5, k6, k7, k8⟩ := cbox_frozen q0
  rcases hk with rfl | rfl
  · go_wp2_with fail
    refine (X _).mono ?_
    rintro e w3 ⟨rfl, f1⟩
    replace f0 := cbox_fr 4 o2 r2 b2 x2 g2 n2 d2 f0 (Or.inl HN.out.2)
    have Q := cbox_set (k' := 4) (o' := o2) (r' := r2) (b' := b2) (x' := x2) (g' := g2) (n' := n2) (d' := d2) q0
    replace r0 := cput_other r0 HN.out.1 4 o2 r2 b2 x2 g2 n2 d2
    clear q0 c0 c1 c2 c3 c4 c5 c6 c7 k0 k1 k3 k4 k5 k6 k7 k8
    replace f0 := f0.trans f1
    replace r0 := r0.keep f1 (fun h => h)
    clear f1 Q
    obtain ⟨c0, c1, c2, c3, c4, c5, c6, c7⟩ := cbox_cells r0
    obtain ⟨k0, k1, k3, k4, k5, k6, k7, k8⟩ := cbox_frozen r0
    go_wp2_with fail
    refine bodyPost_ret (ret_cap_tmp rfl rfl (cbox_set r0) rfl) rfl ?_
    exact ⟨rfl, cbox_fr _ _ _ _ _ _ _ _ f0 (Or.inl (Nat.le_succ _))⟩
  · go_wp2_with fail
    refine (X _).mono ?_
    rintro e w3 ⟨rfl, f1⟩
    replace f0 := cbox_fr 5 o2 r2 b2 x2 g2 n2 d2 f0 (Or.inl HN.out.2)
    have Q := cbox_set (k' := 5) (o' := o2) (r' := r2) (b' := b2) (x' := x2) (g' := g2) (n' := n2) (d' := d2) q0
    replace r0 := cput_other r0 HN.out.1 5 o2 r2 b2 x2 g2 n2 d2
    clear q0 c0 c1 c2 c3 c4 c5 c6 c7 k0 k1 k3 k4 k5 k6 k7 k8
    replace f0 := f0.trans f1
    replace r0 := r0.keep f1 (fun h => h)
    clear f1 Q
    obtain ⟨c0, c1, c2, c3, c4, c5, c6, c7⟩ := cbox_cells r0
    obtain ⟨k0, k1, k3, k4, k5, k6, k7, k8⟩ := cbox_frozen r0
    go_wp2_with fail
    refine bodyPost_ret (ret_cap_tmp rfl rfl (cbox_set r0) rfl) rfl ?_
    exact ⟨rfl, cbox_fr _ _ _ _ _ _ _ _ f0 (Or.inl (Nat.le_succ _))⟩

end Go.Proofs.Ytiiiiapaggkdkaa
