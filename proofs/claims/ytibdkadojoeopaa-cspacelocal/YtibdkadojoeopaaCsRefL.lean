/-
  Contracts of the document's Resolve, Slot and Lookup over the translation, whole. No statement is proved here.
-/
import Derived.Test.YtibdkadojoeopaaCsRefS
namespace Go.Proofs.Ytibdkadojoeopaa
open Go.RowKit Go.Maps Go.WideMaps

theorem rresolve_any (w : World) (p : Qb) (L : List Nd) (h : IsQ w p L) (c : K) (X : Nat) (hX : X < 4294967296) (dp : Int) : Calls Try.prog 30 #[.pointer (some ⟨p.b, 0, none⟩), .agg (capV c), .int .u32 (X : Int), .int .i64 dp] w fun e w' => e = .returned (.tuple #[.agg #[.int .i64 (resR L c X dp).at'.n, .int .i64 (resR L c X dp).at'.i], .int .i64 (resR L c X dp).left, .int .i64 (resR L c X dp).e]) ∧ Fr none' w w' := by
  obtain ⟨k, o, r, b, x, g, n, d⟩ := c
  cases hk : (k == 2 && rightC (K.mk k o r b x g n d)) with
  | false =>
    have e : resR L (K.mk k o r b x g n d) X dp = bad 121 := by unfold resR; rw [if_neg (by simpa using hk)]
    rw [e]
    exact rres_root w _ k o r b x g n d X dp hk
  | true =>
    obtain ⟨h1, h2⟩ := Bool.and_eq_true_iff.mp hk
    obtain rfl : k = 2 := by simpa using h1
    by_cases hd : 1 ≤ dp ∧ dp ≤ 16
    · obtain ⟨D, rfl⟩ := Int.eq_ofNat_of_zero_le (show 0 ≤ dp by omega)
      have e : resR L (K.mk 2 o r b x g n d) X D = resF L 16 (K.mk 2 o r b x g n d) X D := by unfold resR; rw [if_pos hk, if_pos hd, Int.toNat_natCast]
      rw [e]
      exact rres_loop w p L h o r b x g n d X hX D (by omega) h2 _ rfl
    · have e : resR L (K.mk 2 o r b x g n d) X dp = bad 123 := by unfold resR; rw [if_pos hk, if_neg hd]
      rw [e]
      exact rres_depth w _ o r b x g n d X dp h2 (by omega)

set_option maxRecDepth 100000 in
set_option maxHeartbeats 1000000 in
theorem rslotx_err (w : World) (p : Qb) (k o r b x g n : Int) (d : Bool) (X dp an ai lf E : Int) (hs : ∀ w', Fr none' w w' → Calls Try.prog 30 #[.pointer (some ⟨p.b, 0, none⟩), .agg #[.int .i64 k, .int .i64 o, .int .i64 r, .int .i64 b, .int .i64 x, .int .i64 g, .int .i64 n, .bool d], .int .u32 X, .int .i64 dp] w' fun e w2 => e = .returned (.tuple #[.agg #[.int .i64 an, .int .i64 ai], .int .i64 lf, .int .i64 E]) ∧ Fr none' w' w2) (hE : (E != 0) = true) : Calls Try.prog 31 #[.pointer (some ⟨p.b, 0, none⟩), .agg #[.int .i64 k, .int .i64 o, .int .i64 r, .int .i64 b, .int .i64 x, .int .i64 g, .int .i64 n, .bool d], .int .u32 X, .int .i64 dp] w fun e w' => e = .returned (.tuple #[.agg #[.int .i64 0, .int .i64 0], .int .i64 E]) ∧ Fr none' w w' := by
  have f0 := ((Fr.refl none' w).alloc (.cells #[.int .i64 k, .int .i64 o, .int .i64 r, .int .i64 b, .int .i64 x, .int .i64 g, .int .i64 n, .bool d] 34)).alloc (.cells #[.int .i64 0, .int .i64 0] 32)
  have r0 := row_alloc1 w (.cells #[.int .i64 k, .int .i64 o, .int .i64 r, .int .i64 b, .int .i64 x, .int .i64 g, .int .i64 n, .bool d] 34) #[.int .i64 0, .int .i64 0] 32
  have hc := hs _ f0
  clear hs
  go_enter Try.func31, Try.ntmps31
  go_wp2_with fail
  refine hc.mono ?_
  rintro e w1 ⟨rfl, f1⟩
  have hne : w1.heap.size ≠ w.heap.size + 1 := by
    have := f1.size
    simp at this
    omega
  replace r0 := (r0.keep f1 (fun h => h)).alloc (.cells #[.int .i64 an, .int .i64 ai] 32)
  have F := (f0.trans f1).alloc (.cells #[.int .i64 an, .int .i64 ai] 32)
  obtain ⟨s0, s1, q0, q1⟩ := pair_cells r0
  have HR : Hid (Row (pput (w1.alloc (.cells #[.int .i64 an, .int .i64 ai] 32)) (w.heap.size + 1) (.int .i64 0) (.int .i64 0)) (w.heap.size + 1) #[.int .i64 0, .int .i64 0] 32 ∧ Fr none' w (pput (w1.alloc (.cells #[.int .i64 an, .int .i64 ai] 32)) (w.heap.size + 1) (.int .i64 0) (.int .i64 0))) := ⟨pair_set r0 _ _, pair_fr _ _ F (Or.inl (by omega))⟩
  clear r0 F f0 f1 hc
  go_wp2_with fail
  refine bodyPost_ret (ret_rt rfl rfl HR.out.1 rfl) rfl ?_
  exact ⟨rfl, HR.out.2⟩

set_option maxRecDepth 100000 in
set_option maxHeartbeats 1000000 in
theorem rslotx_left (w : World) (p : Qb) (k o r b x g n : Int) (d : Bool) (X dp an ai lf E : Int) (hs : ∀ w', Fr none' w w' → Calls Try.prog 30 #[.pointer (some ⟨p.b, 0, none⟩), .agg #[.int .i64 k, .int .i64 o, .int .i64 r, .int .i64 b, .int .i64 x, .int .i64 g, .int .i64 n, .bool d], .int .u32 X, .int .i64 dp] w' fun e w2 => e = .returned (.tuple #[.agg #[.int .i64 an, .int .i64 ai], .int .i64 lf, .int .i64 E]) ∧ Fr none' w' w2) (hE : (E != 0) = false) (hl : decide (0 < lf) = true) : Calls Try.prog 31 #[.pointer (some ⟨p.b, 0, none⟩), .agg #[.int .i64 k, .int .i64 o, .int .i64 r, .int .i64 b, .int .i64 x, .int .i64 g, .int .i64 n, .bool d], .int .u32 X, .int .i64 dp] w fun e w' => e = .returned (.tuple #[.agg #[.int .i64 0, .int .i64 0], .int .i64 123]) ∧ Fr none' w w' := by
  have f0 := ((Fr.refl none' w).alloc (.cells #[.int .i64 k, .int .i64 o, .int .i64 r, .int .i64 b, .int .i64 x, .int .i64 g, .int .i64 n, .bool d] 34)).alloc (.cells #[.int .i64 0, .int .i64 0] 32)
  have r0 := row_alloc1 w (.cells #[.int .i64 k, .int .i64 o, .int .i64 r, .int .i64 b, .int .i64 x, .int .i64 g, .int .i64 n, .bool d] 34) #[.int .i64 0, .int .i64 0] 32
  have hc := hs _ f0
  clear hs
  go_enter Try.func31, Try.ntmps31
  go_wp2_with fail
  refine hc.mono ?_
  rintro e w1 ⟨rfl, f1⟩
  have hne : w1.heap.size ≠ w.heap.size + 1 := by
    have := f1.size
    simp at this
    omega
  replace r0 := (r0.keep f1 (fun h => h)).alloc (.cells #[.int .i64 an, .int .i64 ai] 32)
  have F := (f0.trans f1).alloc (.cells #[.int .i64 an, .int .i64 ai] 32)
  obtain ⟨s0, s1, q0, q1⟩ := pair_cells r0
  have HR : Hid (Row (pput (w1.alloc (.cells #[.int .i64 an, .int .i64 ai] 32)) (w.heap.size + 1) (.int .i64 0) (.int .i64 0)) (w.heap.size + 1) #[.int .i64 0, .int .i64 0] 32 ∧ Fr none' w (pput (w1.alloc (.cells #[.int .i64 an, .int .i64 ai] 32)) (w.heap.size + 1) (.int .i64 0) (.int .i64 0))) := ⟨pair_set r0 _ _, pair_fr _ _ F (Or.inl (by omega))⟩
  clear r0 F f0 f1 hc
  go_wp2_with fail
  refine bodyPost_ret (ret_rt rfl rfl HR.out.1 rfl) rfl ?_
  exact ⟨rfl, HR.out.2⟩

set_option maxRecDepth 100000 in
set_option maxHeartbeats 1000000 in
theorem rslotx_ok (w : World) (p : Qb) (k o r b x g n : Int) (d : Bool) (X dp an ai lf E : Int) (hs : ∀ w', Fr none' w w' → Calls Try.prog 30 #[.pointer (some ⟨p.b, 0, none⟩), .agg #[.int .i64 k, .int .i64 o, .int .i64 r, .int .i64 b, .int .i64 x, .int .i64 g, .int .i64 n, .bool d], .int .u32 X, .int .i64 dp] w' fun e w2 => e = .returned (.tuple #[.agg #[.int .i64 an, .int .i64 ai], .int .i64 lf, .int .i64 E]) ∧ Fr none' w' w2) (hE : (E != 0) = false) (hl : decide (0 < lf) = false) : Calls Try.prog 31 #[.pointer (some ⟨p.b, 0, none⟩), .agg #[.int .i64 k, .int .i64 o, .int .i64 r, .int .i64 b, .int .i64 x, .int .i64 g, .int .i64 n, .bool d], .int .u32 X, .int .i64 dp] w fun e w' => e = .returned (.tuple #[.agg #[.int .i64 an, .int .i64 ai], .int .i64 0]) ∧ Fr none' w w' := by
  have f0 := ((Fr.refl none' w).alloc (.cells #[.int .i64 k, .int .i64 o, .int .i64 r, .int .i64 b, .int .i64 x, .int .i64 g, .int .i64 n, .bool d] 34)).alloc (.cells #[.int .i64 0, .int .i64 0] 32)
  have r0 := row_alloc1 w (.cells #[.int .i64 k, .int .i64 o, .int .i64 r, .int .i64 b, .int .i64 x, .int .i64 g, .int .i64 n, .bool d] 34) #[.int .i64 0, .int .i64 0] 32
  have hc := hs _ f0
  clear hs
  go_enter Try.func31, Try.ntmps31
  go_wp2_with fail
  refine hc.mono ?_
  rintro e w1 ⟨rfl, f1⟩
  have hne : w1.heap.size ≠ w.heap.size + 1 := by
    have := f1.size
    simp at this
    omega
  replace r0 := (r0.keep f1 (fun h => h)).alloc (.cells #[.int .i64 an, .int .i64 ai] 32)
  have F := (f0.trans f1).alloc (.cells #[.int .i64 an, .int .i64 ai] 32)
  obtain ⟨s0, s1, q0, q1⟩ := pair_cells r0
  have HR : Hid (Row (pput (w1.alloc (.cells #[.int .i64 an, .int .i64 ai] 32)) (w.heap.size + 1) (.int .i64 an) (.int .i64 ai)) (w.heap.size + 1) #[.int .i64 an, .int .i64 ai] 32 ∧ Fr none' w (pput (w1.alloc (.cells #[.int .i64 an, .int .i64 ai] 32)) (w.heap.size + 1) (.int .i64 an) (.int .i64 ai))) := ⟨pair_set r0 _ _, pair_fr _ _ F (Or.inl (by omega))⟩
  clear r0 F f0 f1 hc
  go_wp2_with fail
  refine bodyPost_ret (ret_rt rfl rfl HR.out.1 rfl) rfl ?_
  exact ⟨rfl, HR.out.2⟩

theorem rslotx_any (w : World) (p : Qb) (L : List Nd) (h : IsQ w p L) (c : K) (X : Nat) (hX : X < 4294967296) (dp : Int) : Calls Try.prog 31 #[.pointer (some ⟨p.b, 0, none⟩), .agg (capV c), .int .u32 (X : Int), .int .i64 dp] w fun e w' => e = .returned (.tuple #[.agg #[.int .i64 (slotA L c X dp).n, .int .i64 (slotA L c X dp).i], .int .i64 (slotE L c X dp)]) ∧ Fr none' w w' := by
  have hs := fun w' f => rresolve_any w' p L (h.keep0 (f : Fr none' w w')) c X hX dp
  unfold slotA slotE
  generalize resR L c X dp = R at hs ⊢
  obtain ⟨k, o, r, b, x, g, n, d⟩ := c
  obtain ⟨⟨an, ai⟩, lf, E⟩ := R
  dsimp only at hs ⊢
  by_cases hE : E = 0
  · rw [if_neg (show ¬ (E ≠ 0) by simpa using hE)]
    by_cases hl : 0 < lf
    · rw [if_pos hl, if_neg (show ¬ ((123 : Int) = 0) by decide)]
      exact rslotx_left w p k o r b x g n d X dp an ai lf E hs (by simpa using hE) (by simpa using hl)
    · rw [if_neg hl, if_pos rfl]
      exact rslotx_ok w p k o r b x g n d X dp an ai lf E hs (by simpa using hE) (by simpa using hl)
  · rw [if_pos (show E ≠ 0 from hE), if_neg hE]
    exact rslotx_err w p k o r b x g n d X dp an ai lf E hs (by simpa using hE)

set_option maxRecDepth 100000 in
set_option maxHeartbeats 1000000 in
theorem rlook_err (w : World) (p : Qb) (L : List Nd) (h : IsQ w p L) (k o r b x g n : Int) (d : Bool) (X an ai lf E : Int) (hs : ∀ w', Fr none' w w' → Calls Try.prog 30 #[.pointer (some ⟨p.b, 0, none⟩), .agg #[.int .i64 k, .int .i64 o, .int .i64 r, .int .i64 b, .int .i64 x, .int .i64 g, .int .i64 n, .bool d], .int .u32 X, .int .i64 16] w' fun e w2 => e = .returned (.tuple #[.agg #[.int .i64 an, .int .i64 ai], .int .i64 lf, .int .i64 E]) ∧ Fr none' w' w2) (hE : (E != 0) = true) : Calls Try.prog 33 #[.pointer (some ⟨p.b, 0, none⟩), .agg #[.int .i64 k, .int .i64 o, .int .i64 r, .int .i64 b, .int .i64 x, .int .i64 g, .int .i64 n, .bool d], .int .u32 X] w fun e w' => e = .returned (.tuple #[.agg #[.int .i64 0, .int .i64 0, .int .i64 0, .int .i64 0, .int .i64 0, .int .i64 0, .int .i64 0, .bool false], .agg #[.int .i64 0, .int .i64 0], .int .i64 E]) ∧ Fr none' w w' := by
  have f0 := (((Fr.refl none' w).alloc (.cells #[.int .i64 k, .int .i64 o, .int .i64 r, .int .i64 b, .int .i64 x, .int .i64 g, .int .i64 n, .bool d] 34)).alloc (.cells #[.int .i64 0, .int .i64 0, .int .i64 0, .int .i64 0, .int .i64 0, .int .i64 0, .int .i64 0, .bool false] 34)).alloc (.cells #[.int .i64 0, .int .i64 0] 32)
  have r6 := (row_alloc1 w (.cells #[.int .i64 k, .int .i64 o, .int .i64 r, .int .i64 b, .int .i64 x, .int .i64 g, .int .i64 n, .bool d] 34) #[.int .i64 0, .int .i64 0, .int .i64 0, .int .i64 0, .int .i64 0, .int .i64 0, .int .i64 0, .bool false] 34).alloc (.cells #[.int .i64 0, .int .i64 0] 32)
  have r7 := row_alloc2 w (.cells #[.int .i64 k, .int .i64 o, .int .i64 r, .int .i64 b, .int .i64 x, .int .i64 g, .int .i64 n, .bool d] 34) (.cells #[.int .i64 0, .int .i64 0, .int .i64 0, .int .i64 0, .int .i64 0, .int .i64 0, .int .i64 0, .bool false] 34) #[.int .i64 0, .int .i64 0] 32
  have h0 := h.keep0 f0
  have hc := hs _ f0
  clear hs h
  go_enter Try.func33, Try.ntmps33
  go_wp2_with fail
  refine hc.mono ?_
  rintro e w1 ⟨rfl, f1⟩
  have hsz : w.heap.size + 1 + 1 < w1.heap.size := (r7.keep f1 (fun h => h)).lt
  replace r6 := (r6.keep f1 (fun h => h)).alloc (.cells #[.int .i64 an, .int .i64 ai] 32)
  replace r7 := (r7.keep f1 (fun h => h)).alloc (.cells #[.int .i64 an, .int .i64 ai] 32)
  replace h0 := (h0.keep0 f1).keep0 ((Fr.refl none' w1).alloc (.cells #[.int .i64 an, .int .i64 ai] 32))
  have r9 := row_alloc w1 #[.int .i64 an, .int .i64 ai] 32
  replace f0 := (f0.trans f1).alloc (.cells #[.int .i64 an, .int .i64 ai] 32)
  clear f1 hc
  obtain ⟨k0, k1, k2, k3, k4, k5, k6, k7⟩ := cbox_cells (k := 0) (o := 0) (r := 0) (b := 0) (x := 0) (g := 0) (n := 0) (d := false) r6
  obtain ⟨z0, z1, z2, z3, z4, z5, z6, z7⟩ := cbox_frozen r6
  obtain ⟨s0, s1, q0, q1⟩ := pair_cells r7
  have HR : Hid (Row (pput (cput (w1.alloc (.cells #[.int .i64 an, .int .i64 ai] 32)) (w.heap.size + 1) 0 0 0 0 0 0 0 false) (w.heap.size + 1 + 1) (.int .i64 0) (.int .i64 0)) (w.heap.size + 1) (cbox 0 0 0 0 0 0 0 false) 34 ∧ Row (pput (cput (w1.alloc (.cells #[.int .i64 an, .int .i64 ai] 32)) (w.heap.size + 1) 0 0 0 0 0 0 0 false) (w.heap.size + 1 + 1) (.int .i64 0) (.int .i64 0)) (w.heap.size + 1 + 1) #[.int .i64 0, .int .i64 0] 32 ∧ Fr none' w (pput (cput (w1.alloc (.cells #[.int .i64 an, .int .i64 ai] 32)) (w.heap.size + 1) 0 0 0 0 0 0 0 false) (w.heap.size + 1 + 1) (.int .i64 0) (.int .i64 0))) :=
    ⟨(pair_other (cbox_set (k := 0) (o := 0) (r := 0) (b := 0) (x := 0) (g := 0) (n := 0) (d := false) r6) (by omega) _ _), (pair_set (cput_other r7 (by omega) 0 0 0 0 0 0 0 false) _ _), (pair_fr _ _ (cbox_fr 0 0 0 0 0 0 0 false f0 (Or.inl (by omega))) (Or.inl (by omega)))⟩
  clear r6 r7 r9 f0 h0
  go_wp2_with fail
  refine bodyPost_ret (ret_crt rfl rfl HR.out.1 rfl rfl HR.out.2.1 rfl) rfl ?_
  exact ⟨rfl, HR.out.2.2⟩

set_option maxRecDepth 100000 in
set_option maxHeartbeats 1000000 in
theorem rlook_null (w : World) (p : Qb) (L : List Nd) (h : IsQ w p L) (k o r b x g n : Int) (d : Bool) (X an ai lf E : Int) (hs : ∀ w', Fr none' w w' → Calls Try.prog 30 #[.pointer (some ⟨p.b, 0, none⟩), .agg #[.int .i64 k, .int .i64 o, .int .i64 r, .int .i64 b, .int .i64 x, .int .i64 g, .int .i64 n, .bool d], .int .u32 X, .int .i64 16] w' fun e w2 => e = .returned (.tuple #[.agg #[.int .i64 an, .int .i64 ai], .int .i64 lf, .int .i64 E]) ∧ Fr none' w' w2) (hE : (E != 0) = false) (Ck Co Cr Cb Cx Cg Cn : Int) (Cd : Bool) (hC : getC L ⟨an, ai⟩ = K.mk Ck Co Cr Cb Cx Cg Cn Cd) (hk : (Ck == 0) = true) : Calls Try.prog 33 #[.pointer (some ⟨p.b, 0, none⟩), .agg #[.int .i64 k, .int .i64 o, .int .i64 r, .int .i64 b, .int .i64 x, .int .i64 g, .int .i64 n, .bool d], .int .u32 X] w fun e w' => e = .returned (.tuple #[.agg #[.int .i64 0, .int .i64 0, .int .i64 0, .int .i64 0, .int .i64 0, .int .i64 0, .int .i64 0, .bool false], .agg #[.int .i64 0, .int .i64 0], .int .i64 121]) ∧ Fr none' w w' := by
  have f0 := (((Fr.refl none' w).alloc (.cells #[.int .i64 k, .int .i64 o, .int .i64 r, .int .i64 b, .int .i64 x, .int .i64 g, .int .i64 n, .bool d] 34)).alloc (.cells #[.int .i64 0, .int .i64 0, .int .i64 0, .int .i64 0, .int .i64 0, .int .i64 0, .int .i64 0, .bool false] 34)).alloc (.cells #[.int .i64 0, .int .i64 0] 32)
  have r6 := (row_alloc1 w (.cells #[.int .i64 k, .int .i64 o, .int .i64 r, .int .i64 b, .int .i64 x, .int .i64 g, .int .i64 n, .bool d] 34) #[.int .i64 0, .int .i64 0, .int .i64 0, .int .i64 0, .int .i64 0, .int .i64 0, .int .i64 0, .bool false] 34).alloc (.cells #[.int .i64 0, .int .i64 0] 32)
  have r7 := row_alloc2 w (.cells #[.int .i64 k, .int .i64 o, .int .i64 r, .int .i64 b, .int .i64 x, .int .i64 g, .int .i64 n, .bool d] 34) (.cells #[.int .i64 0, .int .i64 0, .int .i64 0, .int .i64 0, .int .i64 0, .int .i64 0, .int .i64 0, .bool false] 34) #[.int .i64 0, .int .i64 0] 32
  have h0 := h.keep0 f0
  have hc := hs _ f0
  clear hs h
  go_enter Try.func33, Try.ntmps33
  go_wp2_with fail
  refine hc.mono ?_
  rintro e w1 ⟨rfl, f1⟩
  have hsz : w.heap.size + 1 + 1 < w1.heap.size := (r7.keep f1 (fun h => h)).lt
  replace r6 := (r6.keep f1 (fun h => h)).alloc (.cells #[.int .i64 an, .int .i64 ai] 32)
  replace r7 := (r7.keep f1 (fun h => h)).alloc (.cells #[.int .i64 an, .int .i64 ai] 32)
  replace h0 := (h0.keep0 f1).keep0 ((Fr.refl none' w1).alloc (.cells #[.int .i64 an, .int .i64 ai] 32))
  have r9 := row_alloc w1 #[.int .i64 an, .int .i64 ai] 32
  replace f0 := (f0.trans f1).alloc (.cells #[.int .i64 an, .int .i64 ai] 32)
  clear f1 hc
  obtain ⟨y0, y1, y2, y3⟩ := pair_cells r9
  have hG := rget_any _ p L h0 ⟨an, ai⟩
  rw [hC] at hG
  generalize getE L ⟨an, ai⟩ = GE at *
  replace hG : Calls Try.prog 22 #[.pointer (some ⟨p.b, 0, none⟩), .agg #[.int .i64 an, .int .i64 ai]] (w1.alloc (.cells #[.int .i64 an, .int .i64 ai] 32)) fun e w' => e = .returned (.tuple #[.agg #[.int .i64 Ck, .int .i64 Co, .int .i64 Cr, .int .i64 Cb, .int .i64 Cx, .int .i64 Cg, .int .i64 Cn, .bool Cd], .int .i64 GE]) ∧ Fr none' (w1.alloc (.cells #[.int .i64 an, .int .i64 ai] 32)) w' := hG
  go_wp2_with fail
  refine hG.mono ?_
  rintro e w2 ⟨rfl, f1⟩
  clear hG y0 y1 y2 y3 h0
  have hsz2 : w1.heap.size < w2.heap.size := (r9.keep f1 (fun h => h)).lt
  replace r6 := (r6.keep f1 (fun h => h)).alloc (.cells #[.int .i64 Ck, .int .i64 Co, .int .i64 Cr, .int .i64 Cb, .int .i64 Cx, .int .i64 Cg, .int .i64 Cn, .bool Cd] 34)
  replace r7 := (r7.keep f1 (fun h => h)).alloc (.cells #[.int .i64 Ck, .int .i64 Co, .int .i64 Cr, .int .i64 Cb, .int .i64 Cx, .int .i64 Cg, .int .i64 Cn, .bool Cd] 34)
  replace r9 := (r9.keep f1 (fun h => h)).alloc (.cells #[.int .i64 Ck, .int .i64 Co, .int .i64 Cr, .int .i64 Cb, .int .i64 Cx, .int .i64 Cg, .int .i64 Cn, .bool Cd] 34)
  replace f0 := (f0.trans f1).alloc (.cells #[.int .i64 Ck, .int .i64 Co, .int .i64 Cr, .int .i64 Cb, .int .i64 Cx, .int .i64 Cg, .int .i64 Cn, .bool Cd] 34)
  have r12 := row_alloc w2 (cbox Ck Co Cr Cb Cx Cg Cn Cd) 34
  clear f1
  obtain ⟨k0, k1, k2, k3, k4, k5, k6, k7⟩ := cbox_cells (k := 0) (o := 0) (r := 0) (b := 0) (x := 0) (g := 0) (n := 0) (d := false) r6
  obtain ⟨z0, z1, z2, z3, z4, z5, z6, z7⟩ := cbox_frozen r6
  obtain ⟨s0, s1, q0, q1⟩ := pair_cells r7
  have HR : Hid (Row (pput (cput (w2.alloc (.cells #[.int .i64 Ck, .int .i64 Co, .int .i64 Cr, .int .i64 Cb, .int .i64 Cx, .int .i64 Cg, .int .i64 Cn, .bool Cd] 34)) (w.heap.size + 1) 0 0 0 0 0 0 0 false) (w.heap.size + 1 + 1) (.int .i64 0) (.int .i64 0)) (w.heap.size + 1) (cbox 0 0 0 0 0 0 0 false) 34 ∧ Row (pput (cput (w2.alloc (.cells #[.int .i64 Ck, .int .i64 Co, .int .i64 Cr, .int .i64 Cb, .int .i64 Cx, .int .i64 Cg, .int .i64 Cn, .bool Cd] 34)) (w.heap.size + 1) 0 0 0 0 0 0 0 false) (w.heap.size + 1 + 1) (.int .i64 0) (.int .i64 0)) (w.heap.size + 1 + 1) #[.int .i64 0, .int .i64 0] 32 ∧ Fr none' w (pput (cput (w2.alloc (.cells #[.int .i64 Ck, .int .i64 Co, .int .i64 Cr, .int .i64 Cb, .int .i64 Cx, .int .i64 Cg, .int .i64 Cn, .bool Cd] 34)) (w.heap.size + 1) 0 0 0 0 0 0 0 false) (w.heap.size + 1 + 1) (.int .i64 0) (.int .i64 0))) :=
    ⟨(pair_other (cbox_set (k := 0) (o := 0) (r := 0) (b := 0) (x := 0) (g := 0) (n := 0) (d := false) r6) (by omega) _ _), (pair_set (cput_other r7 (by omega) 0 0 0 0 0 0 0 false) _ _), (pair_fr _ _ (cbox_fr 0 0 0 0 0 0 0 false f0 (Or.inl (by omega))) (Or.inl (by omega)))⟩
  obtain ⟨u0, u1, u2, u3, u4, u5, u6, u7⟩ := cbox_cells r12
  clear r6 r7 r9 r12 f0 hsz hsz2
  go_wp2_with fail
  refine bodyPost_ret (ret_crt rfl rfl HR.out.1 rfl rfl HR.out.2.1 rfl) rfl ?_
  exact ⟨rfl, HR.out.2.2⟩

set_option maxRecDepth 100000 in
set_option maxHeartbeats 1000000 in
theorem rlook_ok (w : World) (p : Qb) (L : List Nd) (h : IsQ w p L) (k o r b x g n : Int) (d : Bool) (X an ai lf E : Int) (hs : ∀ w', Fr none' w w' → Calls Try.prog 30 #[.pointer (some ⟨p.b, 0, none⟩), .agg #[.int .i64 k, .int .i64 o, .int .i64 r, .int .i64 b, .int .i64 x, .int .i64 g, .int .i64 n, .bool d], .int .u32 X, .int .i64 16] w' fun e w2 => e = .returned (.tuple #[.agg #[.int .i64 an, .int .i64 ai], .int .i64 lf, .int .i64 E]) ∧ Fr none' w' w2) (hE : (E != 0) = false) (Ck Co Cr Cb Cx Cg Cn : Int) (Cd : Bool) (hC : getC L ⟨an, ai⟩ = K.mk Ck Co Cr Cb Cx Cg Cn Cd) (hk : (Ck == 0) = false) : Calls Try.prog 33 #[.pointer (some ⟨p.b, 0, none⟩), .agg #[.int .i64 k, .int .i64 o, .int .i64 r, .int .i64 b, .int .i64 x, .int .i64 g, .int .i64 n, .bool d], .int .u32 X] w fun e w' => e = .returned (.tuple #[.agg #[.int .i64 Ck, .int .i64 Co, .int .i64 Cr, .int .i64 Cb, .int .i64 Cx, .int .i64 Cg, .int .i64 Cn, .bool Cd], .agg #[.int .i64 an, .int .i64 ai], .int .i64 0]) ∧ Fr none' w w' := by
  have f0 := (((Fr.refl none' w).alloc (.cells #[.int .i64 k, .int .i64 o, .int .i64 r, .int .i64 b, .int .i64 x, .int .i64 g, .int .i64 n, .bool d] 34)).alloc (.cells #[.int .i64 0, .int .i64 0, .int .i64 0, .int .i64 0, .int .i64 0, .int .i64 0, .int .i64 0, .bool false] 34)).alloc (.cells #[.int .i64 0, .int .i64 0] 32)
  have r6 := (row_alloc1 w (.cells #[.int .i64 k, .int .i64 o, .int .i64 r, .int .i64 b, .int .i64 x, .int .i64 g, .int .i64 n, .bool d] 34) #[.int .i64 0, .int .i64 0, .int .i64 0, .int .i64 0, .int .i64 0, .int .i64 0, .int .i64 0, .bool false] 34).alloc (.cells #[.int .i64 0, .int .i64 0] 32)
  have r7 := row_alloc2 w (.cells #[.int .i64 k, .int .i64 o, .int .i64 r, .int .i64 b, .int .i64 x, .int .i64 g, .int .i64 n, .bool d] 34) (.cells #[.int .i64 0, .int .i64 0, .int .i64 0, .int .i64 0, .int .i64 0, .int .i64 0, .int .i64 0, .bool false] 34) #[.int .i64 0, .int .i64 0] 32
  have h0 := h.keep0 f0
  have hc := hs _ f0
  clear hs h
  go_enter Try.func33, Try.ntmps33
  go_wp2_with fail
  refine hc.mono ?_
  rintro e w1 ⟨rfl, f1⟩
  have hsz : w.heap.size + 1 + 1 < w1.heap.size := (r7.keep f1 (fun h => h)).lt
  replace r6 := (r6.keep f1 (fun h => h)).alloc (.cells #[.int .i64 an, .int .i64 ai] 32)
  replace r7 := (r7.keep f1 (fun h => h)).alloc (.cells #[.int .i64 an, .int .i64 ai] 32)
  replace h0 := (h0.keep0 f1).keep0 ((Fr.refl none' w1).alloc (.cells #[.int .i64 an, .int .i64 ai] 32))
  have r9 := row_alloc w1 #[.int .i64 an, .int .i64 ai] 32
  replace f0 := (f0.trans f1).alloc (.cells #[.int .i64 an, .int .i64 ai] 32)
  clear f1 hc
  obtain ⟨y0, y1, y2, y3⟩ := pair_cells r9
  have hG := rget_any _ p L h0 ⟨an, ai⟩
  rw [hC] at hG
  generalize getE L ⟨an, ai⟩ = GE at *
  replace hG : Calls Try.prog 22 #[.pointer (some ⟨p.b, 0, none⟩), .agg #[.int .i64 an, .int .i64 ai]] (w1.alloc (.cells #[.int .i64 an, .int .i64 ai] 32)) fun e w' => e = .returned (.tuple #[.agg #[.int .i64 Ck, .int .i64 Co, .int .i64 Cr, .int .i64 Cb, .int .i64 Cx, .int .i64 Cg, .int .i64 Cn, .bool Cd], .int .i64 GE]) ∧ Fr none' (w1.alloc (.cells #[.int .i64 an, .int .i64 ai] 32)) w' := hG
  go_wp2_with fail
  refine hG.mono ?_
  rintro e w2 ⟨rfl, f1⟩
  clear hG y0 y1 y2 y3 h0
  have hsz2 : w1.heap.size < w2.heap.size := (r9.keep f1 (fun h => h)).lt
  replace r6 := (r6.keep f1 (fun h => h)).alloc (.cells #[.int .i64 Ck, .int .i64 Co, .int .i64 Cr, .int .i64 Cb, .int .i64 Cx, .int .i64 Cg, .int .i64 Cn, .bool Cd] 34)
  replace r7 := (r7.keep f1 (fun h => h)).alloc (.cells #[.int .i64 Ck, .int .i64 Co, .int .i64 Cr, .int .i64 Cb, .int .i64 Cx, .int .i64 Cg, .int .i64 Cn, .bool Cd] 34)
  replace r9 := (r9.keep f1 (fun h => h)).alloc (.cells #[.int .i64 Ck, .int .i64 Co, .int .i64 Cr, .int .i64 Cb, .int .i64 Cx, .int .i64 Cg, .int .i64 Cn, .bool Cd] 34)
  replace f0 := (f0.trans f1).alloc (.cells #[.int .i64 Ck, .int .i64 Co, .int .i64 Cr, .int .i64 Cb, .int .i64 Cx, .int .i64 Cg, .int .i64 Cn, .bool Cd] 34)
  have r12 := row_alloc w2 (cbox Ck Co Cr Cb Cx Cg Cn Cd) 34
  clear f1
  obtain ⟨k0, k1, k2, k3, k4, k5, k6, k7⟩ := cbox_cells (k := 0) (o := 0) (r := 0) (b := 0) (x := 0) (g := 0) (n := 0) (d := false) r6
  obtain ⟨z0, z1, z2, z3, z4, z5, z6, z7⟩ := cbox_frozen r6
  obtain ⟨s0, s1, q0, q1⟩ := pair_cells r7
  obtain ⟨y0, y1, y2, y3⟩ := pair_cells r9
  obtain ⟨u0, u1, u2, u3, u4, u5, u6, u7⟩ := cbox_cells r12
  have HR : Hid (Row (pput (cput (w2.alloc (.cells #[.int .i64 Ck, .int .i64 Co, .int .i64 Cr, .int .i64 Cb, .int .i64 Cx, .int .i64 Cg, .int .i64 Cn, .bool Cd] 34)) (w.heap.size + 1) Ck Co Cr Cb Cx Cg Cn Cd) (w.heap.size + 1 + 1) (.int .i64 an) (.int .i64 ai)).drew (w.heap.size + 1) (cbox Ck Co Cr Cb Cx Cg Cn Cd) 34 ∧ Row (pput (cput (w2.alloc (.cells #[.int .i64 Ck, .int .i64 Co, .int .i64 Cr, .int .i64 Cb, .int .i64 Cx, .int .i64 Cg, .int .i64 Cn, .bool Cd] 34)) (w.heap.size + 1) Ck Co Cr Cb Cx Cg Cn Cd) (w.heap.size + 1 + 1) (.int .i64 an) (.int .i64 ai)).drew (w.heap.size + 1 + 1) #[.int .i64 an, .int .i64 ai] 32 ∧ Fr none' w (pput (cput (w2.alloc (.cells #[.int .i64 Ck, .int .i64 Co, .int .i64 Cr, .int .i64 Cb, .int .i64 Cx, .int .i64 Cg, .int .i64 Cn, .bool Cd] 34)) (w.heap.size + 1) Ck Co Cr Cb Cx Cg Cn Cd) (w.heap.size + 1 + 1) (.int .i64 an) (.int .i64 ai)).drew) :=
    ⟨(pair_other (cbox_set (k := 0) (o := 0) (r := 0) (b := 0) (x := 0) (g := 0) (n := 0) (d := false) r6) (by omega) _ _).drew, (pair_set (cput_other r7 (by omega) Ck Co Cr Cb Cx Cg Cn Cd) _ _).drew, (pair_fr _ _ (cbox_fr Ck Co Cr Cb Cx Cg Cn Cd f0 (Or.inl (by omega))) (Or.inl (by omega))).drew⟩
  have hd1 : w1.heap.size ≠ w.heap.size + 1 := by omega
  have hd2 : w1.heap.size ≠ w.heap.size + 1 + 1 := by omega
  have hd3 : w2.heap.size ≠ w.heap.size + 1 := by omega
  have hd4 : w2.heap.size ≠ w.heap.size + 1 + 1 := by omega
  clear r6 r7 r9 r12 f0 hsz hsz2
  go_wp2_with fail
  go_region
  all_goals go_wp2_with fail
  all_goals (refine bodyPost_ret (ret_crt rfl rfl HR.out.1 rfl rfl HR.out.2.1 rfl) rfl ?_; exact ⟨rfl, HR.out.2.2⟩)

theorem rlookup_any (w : World) (p : Qb) (L : List Nd) (h : IsQ w p L) (c : K) (X : Nat) (hX : X < 4294967296) : Calls Try.prog 33 #[.pointer (some ⟨p.b, 0, none⟩), .agg (capV c), .int .u32 (X : Int)] w fun e w' => e = .returned (.tuple #[.agg (capV (lookC L c X)), .agg #[.int .i64 (lookA L c X).n, .int .i64 (lookA L c X).i], .int .i64 (lookE L c X)]) ∧ Fr none' w w' := by
  have hs := fun w' f => rresolve_any w' p L (h.keep0 (f : Fr none' w w')) c X hX 16
  unfold lookC lookA lookE
  generalize resR L c X 16 = R at hs ⊢
  obtain ⟨k, o, r, b, x, g, n, d⟩ := c
  obtain ⟨⟨an, ai⟩, lf, E⟩ := R
  dsimp only at hs ⊢
  by_cases hE : E = 0
  · rw [if_neg (show ¬ (E ≠ 0) by simpa using hE)]
    obtain ⟨C, hC⟩ : ∃ C, getC L ⟨an, ai⟩ = C := ⟨_, rfl⟩
    rw [hC]
    obtain ⟨Ck, Co, Cr, Cb, Cx, Cg, Cn, Cd⟩ := C
    dsimp only
    by_cases hk : Ck = 0
    · rw [if_pos hk, if_neg (show ¬ ((121 : Int) = 0) by decide), if_neg (show ¬ ((121 : Int) = 0) by decide)]
      exact rlook_null w p L h k o r b x g n d X an ai lf E hs (by simpa using hE) Ck Co Cr Cb Cx Cg Cn Cd hC (by simpa using hk)
    · rw [if_neg hk, if_pos rfl, if_pos rfl]
      exact rlook_ok w p L h k o r b x g n d X an ai lf E hs (by simpa using hE) Ck Co Cr Cb Cx Cg Cn Cd hC (by simpa using hk)
  · rw [if_pos (show E ≠ 0 from hE), if_neg hE, if_neg hE]
    exact rlook_err w p L h k o r b x g n d X an ai lf E hs (by simpa using hE)

end Go.Proofs.Ytibdkadojoeopaa
