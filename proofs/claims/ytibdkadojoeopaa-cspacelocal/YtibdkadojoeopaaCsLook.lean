/-
  Contracts of package cspace's Resolve, Slot and Lookup over the translation, whole. No statement is proved here.
-/
import Derived.Test.YtibdkadojoeopaaCsRes
namespace Go.Proofs.Ytibdkadojoeopaa
open Go.RowKit Go.Maps Go.WideMaps

theorem resolve_any (w : World) (p : Pb) (L : List Nd) (h : IsP w p L) (c : K) (hr : I64 c.r) (X : Nat) (hX : X < 4294967296) (dp : Int) : Calls Try.prog 17 #[.pointer (some ⟨p.b, 0, none⟩), .agg (capV c), .int .u32 (X : Int), .int .i64 dp] w fun e w' => e = .returned (.tuple #[.agg #[.int .i64 (resR L c X dp).at'.n, .int .i64 (resR L c X dp).at'.i], .int .i64 (resR L c X dp).left, .int .i64 (resR L c X dp).e]) ∧ Fr none' w w' := by
  obtain ⟨k, o, r, b, x, g, n, d⟩ := c
  cases hk : (k == 2 && rightC (K.mk k o r b x g n d)) with
  | false =>
    have e : resR L (K.mk k o r b x g n d) X dp = bad 121 := by unfold resR; rw [if_neg (by simpa using hk)]
    rw [e]
    exact res_root w _ k o r b x g n d hr X dp hk
  | true =>
    obtain ⟨h1, h2⟩ := Bool.and_eq_true_iff.mp hk
    obtain rfl : k = 2 := by simpa using h1
    by_cases hd : 1 ≤ dp ∧ dp ≤ 16
    · obtain ⟨D, rfl⟩ := Int.eq_ofNat_of_zero_le (show 0 ≤ dp by omega)
      have e : resR L (K.mk 2 o r b x g n d) X D = resF L 16 (K.mk 2 o r b x g n d) X D := by unfold resR; rw [if_pos hk, if_pos hd, Int.toNat_natCast]
      rw [e]
      exact res_loop w p L h o r b x g n d X hX D (by omega) h2 _ rfl
    · have e : resR L (K.mk 2 o r b x g n d) X dp = bad 123 := by unfold resR; rw [if_pos hk, if_neg hd]
      rw [e]
      refine res_depth w _ o r b x g n d X dp h2 ?_
      cases h3 : (decide (1 ≤ dp) && decide (dp ≤ 16)) with
      | false => rfl
      | true => exact absurd (by simpa using h3) hd

/-- The slot that is told is there. -/
theorem resF_in {L : List Nd} (g : GoodL L) : ∀ (f : Nat) (c : K) (x l : Nat), rightC c = true → c.k = 2 → (resF L f c x l).e = 0 → getE L (resF L f c x l).at' = 0 ∧ 0 ≤ (resF L f c x l).left ∧ (0 ≤ (resF L f c x l).at'.n ∧ (resF L f c x l).at'.n ≤ 1023) := by
  intro f
  induction f with
  | zero => intro c x l _ _ h; cases h
  | succ f ih =>
    intro c x l hc hk h
    by_cases hE : stepE L c x l = 0
    · have hA : getE L (stepA c x l) = 0 ∧ 0 ≤ (stepA c x l).n ∧ (stepA c x l).n ≤ 1023 := by
        obtain ⟨e1, e2, e3, e4⟩ := stepE_zero hE
        obtain ⟨ho, hx, _⟩ := right_cn hc hk
        refine ⟨?_, ho⟩
        unfold radS at e4
        cases hf : fnd L c.o with
        | none => rw [hf] at e4; simp at e4; omega
        | some n =>
          rw [hf] at e4
          have e4' : (n.rx : Int) = c.x := e4
          have hlt : bitV x (stepL c l) c.x.toNat < 2 ^ n.rx := by
            unfold bitV
            rw [show c.x.toNat = n.rx by omega]
            exact Nat.mod_lt _ (Nat.two_pow_pos _)
          exact (getE_ok hf hlt).1
      by_cases h0 : stepL c l = 0 ∨ (getC L (stepA c x l)).k ≠ 2
      · rw [resF_end hE h0]
        exact ⟨hA.1, by show (0 : Int) ≤ (stepL c l : Nat); omega, hA.2⟩
      · rw [resF_go hE h0] at h ⊢
        exact ih _ x _ (right_get g _) (Decidable.byContradiction fun hh => h0 (Or.inr hh)) h
    · rw [resF_bad rfl hE] at h
      exact absurd h hE

theorem resR_in {L : List Nd} (g : GoodL L) {c : K} {x : Nat} {d : Int} (h : (resR L c x d).e = 0) : getE L (resR L c x d).at' = 0 ∧ 0 ≤ (resR L c x d).left ∧ I64 (resR L c x d).at'.n := by
  unfold resR at h ⊢
  split at h
  · rename_i hk
    rw [if_pos hk]
    obtain ⟨h1, h2⟩ := Bool.and_eq_true_iff.mp hk
    split at h
    · rename_i hd
      rw [if_pos hd]
      obtain ⟨q1, q2, q3⟩ := resF_in g 16 c x _ h2 (by simpa using h1) h
      exact ⟨q1, q2, by unfold I64; omega⟩
    · cases h
  · cases h

theorem resR_bad {L : List Nd} {c : K} {x : Nat} {d : Int} (h : (resR L c x d).e ≠ 0) : resR L c x d = bad (resR L c x d).e := by
  have key : ∀ (f : Nat) (c : K) (l : Nat), (resF L f c x l).e ≠ 0 → resF L f c x l = bad (resF L f c x l).e := by
    intro f
    induction f with
    | zero => intro c l _; rfl
    | succ f ih =>
      intro c l h
      by_cases hE : stepE L c x l = 0
      · by_cases h0 : stepL c l = 0 ∨ (getC L (stepA c x l)).k ≠ 2
        · rw [resF_end hE h0] at h; exact absurd rfl h
        · rw [resF_go hE h0] at h ⊢; exact ih _ _ h
      · rw [resF_bad rfl hE]; rfl
  unfold resR at h ⊢
  split
  · split
    · rename_i h1 h2
      rw [if_pos h1, if_pos h2] at h
      exact key _ _ _ h
    · rfl
  · rfl

set_option maxRecDepth 100000 in
set_option maxHeartbeats 1000000 in
theorem slotx_err (w : World) (p : Pb) (k o r b x g n : Int) (d : Bool) (X dp an ai lf E : Int) (hs : ∀ w', Fr none' w w' → Calls Try.prog 17 #[.pointer (some ⟨p.b, 0, none⟩), .agg #[.int .i64 k, .int .i64 o, .int .i64 r, .int .i64 b, .int .i64 x, .int .i64 g, .int .i64 n, .bool d], .int .u32 X, .int .i64 dp] w' fun e w2 => e = .returned (.tuple #[.agg #[.int .i64 an, .int .i64 ai], .int .i64 lf, .int .i64 E]) ∧ Fr none' w' w2) (hE : (E != 0) = true) : Calls Try.prog 26 #[.pointer (some ⟨p.b, 0, none⟩), .agg #[.int .i64 k, .int .i64 o, .int .i64 r, .int .i64 b, .int .i64 x, .int .i64 g, .int .i64 n, .bool d], .int .u32 X, .int .i64 dp] w fun e w' => e = .returned (.tuple #[.agg #[.int .i64 0, .int .i64 0], .int .i64 E]) ∧ Fr none' w w' := by
  have f0 := ((Fr.refl none' w).alloc (.cells #[.int .i64 k, .int .i64 o, .int .i64 r, .int .i64 b, .int .i64 x, .int .i64 g, .int .i64 n, .bool d] 34)).alloc (.cells #[.int .i64 0, .int .i64 0] 32)
  have r0 := row_alloc1 w (.cells #[.int .i64 k, .int .i64 o, .int .i64 r, .int .i64 b, .int .i64 x, .int .i64 g, .int .i64 n, .bool d] 34) #[.int .i64 0, .int .i64 0] 32
  have hc := hs _ f0
  clear hs
  go_enter Try.func26, Try.ntmps26
  go_wp2_with fail
  refine hc.mono ?_
  rintro e w1 ⟨rfl, f1⟩
  have hne : w1.heap.size ≠ w.heap.size + 1 := by
    have := f1.size
    simp at this
    omega
  replace r0 := (r0.keep f1 (fun h => h)).alloc (.cells #[.int .i64 an, .int .i64 ai] 32)
  have F := (f0.trans f1).alloc (.cells #[.int .i64 an, .int .i64 ai] 32)
  obtain ⟨s0, s1, q0, q1⟩ := pair_cells r0
  have HR : Hid (Row (pput (w1.alloc (.cells #[.int .i64 an, .int .i64 ai] 32)) (w.heap.size + 1) (.int .i64 0) (.int .i64 0)) (w.heap.size + 1) #[.int .i64 0, .int .i64 0] 32 ∧ Fr none' w (pput (w1.alloc (.cells #[.int .i64 an, .int .i64 ai] 32)) (w.heap.size + 1) (.int .i64 0) (.int .i64 0))) := ⟨pair_set r0 _ _, pair_fr _ _ F (Or.inl (by omega))⟩
  clear r0 F f0 f1 hc
  go_wp2_with fail
  refine bodyPost_ret (ret_rt rfl rfl HR.out.1 rfl) rfl ?_
  exact ⟨rfl, HR.out.2⟩

set_option maxRecDepth 100000 in
set_option maxHeartbeats 1000000 in
theorem slotx_left (w : World) (p : Pb) (k o r b x g n : Int) (d : Bool) (X dp an ai lf E : Int) (hs : ∀ w', Fr none' w w' → Calls Try.prog 17 #[.pointer (some ⟨p.b, 0, none⟩), .agg #[.int .i64 k, .int .i64 o, .int .i64 r, .int .i64 b, .int .i64 x, .int .i64 g, .int .i64 n, .bool d], .int .u32 X, .int .i64 dp] w' fun e w2 => e = .returned (.tuple #[.agg #[.int .i64 an, .int .i64 ai], .int .i64 lf, .int .i64 E]) ∧ Fr none' w' w2) (hE : (E != 0) = false) (hl : decide (0 < lf) = true) : Calls Try.prog 26 #[.pointer (some ⟨p.b, 0, none⟩), .agg #[.int .i64 k, .int .i64 o, .int .i64 r, .int .i64 b, .int .i64 x, .int .i64 g, .int .i64 n, .bool d], .int .u32 X, .int .i64 dp] w fun e w' => e = .returned (.tuple #[.agg #[.int .i64 0, .int .i64 0], .int .i64 123]) ∧ Fr none' w w' := by
  have f0 := ((Fr.refl none' w).alloc (.cells #[.int .i64 k, .int .i64 o, .int .i64 r, .int .i64 b, .int .i64 x, .int .i64 g, .int .i64 n, .bool d] 34)).alloc (.cells #[.int .i64 0, .int .i64 0] 32)
  have r0 := row_alloc1 w (.cells #[.int .i64 k, .int .i64 o, .int .i64 r, .int .i64 b, .int .i64 x, .int .i64 g, .int .i64 n, .bool d] 34) #[.int .i64 0, .int .i64 0] 32
  have hc := hs _ f0
  clear hs
  go_enter Try.func26, Try.ntmps26
  go_wp2_with fail
  refine hc.mono ?_
  rintro e w1 ⟨rfl, f1⟩
  have hne : w1.heap.size ≠ w.heap.size + 1 := by
    have := f1.size
    simp at this
    omega
  replace r0 := (r0.keep f1 (fun h => h)).alloc (.cells #[.int .i64 an, .int .i64 ai] 32)
  have F := (f0.trans f1).alloc (.cells #[.int .i64 an, .int .i64 ai] 32)
  obtain ⟨s0, s1, q0, q1⟩ := pair_cells r0
  have HR : Hid (Row (pput (w1.alloc (.cells #[.int .i64 an, .int .i64 ai] 32)) (w.heap.size + 1) (.int .i64 0) (.int .i64 0)) (w.heap.size + 1) #[.int .i64 0, .int .i64 0] 32 ∧ Fr none' w (pput (w1.alloc (.cells #[.int .i64 an, .int .i64 ai] 32)) (w.heap.size + 1) (.int .i64 0) (.int .i64 0))) := ⟨pair_set r0 _ _, pair_fr _ _ F (Or.inl (by omega))⟩
  clear r0 F f0 f1 hc
  go_wp2_with fail
  refine bodyPost_ret (ret_rt rfl rfl HR.out.1 rfl) rfl ?_
  exact ⟨rfl, HR.out.2⟩

set_option maxRecDepth 100000 in
set_option maxHeartbeats 1000000 in
theorem slotx_ok (w : World) (p : Pb) (k o r b x g n : Int) (d : Bool) (X dp an ai lf E : Int) (hs : ∀ w', Fr none' w w' → Calls Try.prog 17 #[.pointer (some ⟨p.b, 0, none⟩), .agg #[.int .i64 k, .int .i64 o, .int .i64 r, .int .i64 b, .int .i64 x, .int .i64 g, .int .i64 n, .bool d], .int .u32 X, .int .i64 dp] w' fun e w2 => e = .returned (.tuple #[.agg #[.int .i64 an, .int .i64 ai], .int .i64 lf, .int .i64 E]) ∧ Fr none' w' w2) (hE : (E != 0) = false) (hl : decide (0 < lf) = false) : Calls Try.prog 26 #[.pointer (some ⟨p.b, 0, none⟩), .agg #[.int .i64 k, .int .i64 o, .int .i64 r, .int .i64 b, .int .i64 x, .int .i64 g, .int .i64 n, .bool d], .int .u32 X, .int .i64 dp] w fun e w' => e = .returned (.tuple #[.agg #[.int .i64 an, .int .i64 ai], .int .i64 0]) ∧ Fr none' w w' := by
  have f0 := ((Fr.refl none' w).alloc (.cells #[.int .i64 k, .int .i64 o, .int .i64 r, .int .i64 b, .int .i64 x, .int .i64 g, .int .i64 n, .bool d] 34)).alloc (.cells #[.int .i64 0, .int .i64 0] 32)
  have r0 := row_alloc1 w (.cells #[.int .i64 k, .int .i64 o, .int .i64 r, .int .i64 b, .int .i64 x, .int .i64 g, .int .i64 n, .bool d] 34) #[.int .i64 0, .int .i64 0] 32
  have hc := hs _ f0
  clear hs
  go_enter Try.func26, Try.ntmps26
  go_wp2_with fail
  refine hc.mono ?_
  rintro e w1 ⟨rfl, f1⟩
  have hne : w1.heap.size ≠ w.heap.size + 1 := by
    have := f1.size
    simp at this
    omega
  replace r0 := (r0.keep f1 (fun h => h)).alloc (.cells #[.int .i64 an, .int .i64 ai] 32)
  have F := (f0.trans f1).alloc (.cells #[.int .i64 an, .int .i64 ai] 32)
  obtain ⟨s0, s1, q0, q1⟩ := pair_cells r0
  have HR : Hid (Row (pput (w1.alloc (.cells #[.int .i64 an, .int .i64 ai] 32)) (w.heap.size + 1) (.int .i64 an) (.int .i64 ai)) (w.heap.size + 1) #[.int .i64 an, .int .i64 ai] 32 ∧ Fr none' w (pput (w1.alloc (.cells #[.int .i64 an, .int .i64 ai] 32)) (w.heap.size + 1) (.int .i64 an) (.int .i64 ai))) := ⟨pair_set r0 _ _, pair_fr _ _ F (Or.inl (by omega))⟩
  clear r0 F f0 f1 hc
  go_wp2_with fail
  refine bodyPost_ret (ret_rt rfl rfl HR.out.1 rfl) rfl ?_
  exact ⟨rfl, HR.out.2⟩

theorem slotx_any (w : World) (p : Pb) (L : List Nd) (h : IsP w p L) (c : K) (hr : I64 c.r) (X : Nat) (hX : X < 4294967296) (dp : Int) : Calls Try.prog 26 #[.pointer (some ⟨p.b, 0, none⟩), .agg (capV c), .int .u32 (X : Int), .int .i64 dp] w fun e w' => e = .returned (.tuple #[.agg #[.int .i64 (slotA L c X dp).n, .int .i64 (slotA L c X dp).i], .int .i64 (slotE L c X dp)]) ∧ Fr none' w w' := by
  have hs := fun w' f => resolve_any w' p L (h.keep0 (f : Fr none' w w')) c hr X hX dp
  unfold slotA slotE
  generalize resR L c X dp = R at hs ⊢
  obtain ⟨k, o, r, b, x, g, n, d⟩ := c
  obtain ⟨⟨an, ai⟩, lf, E⟩ := R
  dsimp only at hs ⊢
  by_cases hE : E = 0
  · rw [if_neg (show ¬ (E ≠ 0) by simpa using hE)]
    by_cases hl : 0 < lf
    · rw [if_pos hl, if_neg (show ¬ ((123 : Int) = 0) by decide)]
      exact slotx_left w p k o r b x g n d X dp an ai lf E hs (by simpa using hE) (by simpa using hl)
    · rw [if_neg hl, if_pos rfl]
      exact slotx_ok w p k o r b x g n d X dp an ai lf E hs (by simpa using hE) (by simpa using hl)
  · rw [if_pos (show E ≠ 0 from hE), if_neg hE]
    exact slotx_err w p k o r b x g n d X dp an ai lf E hs (by simpa using hE)

/-! ### Lookup -/
theorem load_cap {w : World} {g : Nat} {cs : Array Value} (hr : Row w g cs 34) (hs : cs.size = 8) : (loadVar 34 ⟨g, 0, none⟩).run Try.prog w = .ok (.agg cs) w :=
  run_loadVar_row w g _ 34 cs (0, 0) _ hr Try.underlying34 rfl (by rw [hs]; exact size_cap)

/-- A cap, a slot's name, an error. -/
theorem ret_crt {fn : Func} {q p u : Tmp} {tmps : Array Value} {g g' : Nat} {cs cs' : Array Value} {w : World} (h : fn.results = #[.cell q 34, .cell p 32, .tmp u]) (hq : tmps.getD q undef = .pointer (some ⟨g', 0, none⟩)) (hr' : Row w g' cs' 34) (hs' : cs'.size = 8)
    (hp : tmps.getD p undef = .pointer (some ⟨g, 0, none⟩)) (hr : Row w g cs 32) (hs : cs.size = 2) :
    (results fn tmps).run Try.prog w = .ok (.tuple #[.agg cs', .agg cs, tmps.getD u undef]) w := by
  have hl := load_ref hr hs
  have hl' := load_cap hr' hs'
  have hp' : tmps[p]?.getD undef = .pointer (some ⟨g, 0, none⟩) := by simpa using hp
  have hq' : tmps[q]?.getD undef = .pointer (some ⟨g', 0, none⟩) := by simpa using hq
  simp only [results, h]
  simp [Sem.run_bind, Result.andThen, hp', hq', asAddr, hl, hl']

set_option maxRecDepth 100000 in
set_option maxHeartbeats 1000000 in
theorem look_err (w : World) (p : Pb) (L : List Nd) (h : IsP w p L) (k o r b x g n : Int) (d : Bool) (X an ai lf E : Int) (hs : ∀ w', Fr none' w w' → Calls Try.prog 17 #[.pointer (some ⟨p.b, 0, none⟩), .agg #[.int .i64 k, .int .i64 o, .int .i64 r, .int .i64 b, .int .i64 x, .int .i64 g, .int .i64 n, .bool d], .int .u32 X, .int .i64 16] w' fun e w2 => e = .returned (.tuple #[.agg #[.int .i64 an, .int .i64 ai], .int .i64 lf, .int .i64 E]) ∧ Fr none' w' w2) (hE : (E != 0) = true) : Calls Try.prog 32 #[.pointer (some ⟨p.b, 0, none⟩), .agg #[.int .i64 k, .int .i64 o, .int .i64 r, .int .i64 b, .int .i64 x, .int .i64 g, .int .i64 n, .bool d], .int .u32 X] w fun e w' => e = .returned (.tuple #[.agg #[.int .i64 0, .int .i64 0, .int .i64 0, .int .i64 0, .int .i64 0, .int .i64 0, .int .i64 0, .bool false], .agg #[.int .i64 0, .int .i64 0], .int .i64 E]) ∧ Fr none' w w' := by
  have f0 := (((Fr.refl none' w).alloc (.cells #[.int .i64 k, .int .i64 o, .int .i64 r, .int .i64 b, .int .i64 x, .int .i64 g, .int .i64 n, .bool d] 34)).alloc (.cells #[.int .i64 0, .int .i64 0, .int .i64 0, .int .i64 0, .int .i64 0, .int .i64 0, .int .i64 0, .bool false] 34)).alloc (.cells #[.int .i64 0, .int .i64 0] 32)
  have r6 := (row_alloc1 w (.cells #[.int .i64 k, .int .i64 o, .int .i64 r, .int .i64 b, .int .i64 x, .int .i64 g, .int .i64 n, .bool d] 34) #[.int .i64 0, .int .i64 0, .int .i64 0, .int .i64 0, .int .i64 0, .int .i64 0, .int .i64 0, .bool false] 34).alloc (.cells #[.int .i64 0, .int .i64 0] 32)
  have r7 := row_alloc2 w (.cells #[.int .i64 k, .int .i64 o, .int .i64 r, .int .i64 b, .int .i64 x, .int .i64 g, .int .i64 n, .bool d] 34) (.cells #[.int .i64 0, .int .i64 0, .int .i64 0, .int .i64 0, .int .i64 0, .int .i64 0, .int .i64 0, .bool false] 34) #[.int .i64 0, .int .i64 0] 32
  have h0 := h.keep0 f0
  have hc := hs _ f0
  clear hs h
  go_enter Try.func32, Try.ntmps32
  go_wp2_with fail
  refine hc.mono ?_
  rintro e w1 ⟨rfl, f1⟩
  have hsz : w.heap.size + 1 + 1 < w1.heap.size := (r7.keep f1 (fun h => h)).lt
  replace r6 := (r6.keep f1 (fun h => h)).alloc (.cells #[.int .i64 an, .int .i64 ai] 32)
  replace r7 := (r7.keep f1 (fun h => h)).alloc (.cells #[.int .i64 an, .int .i64 ai] 32)
  replace h0 := (h0.keep0 f1).keep0 ((Fr.refl none' w1).alloc (.cells #[.int .i64 an, .int .i64 ai] 32))
  have r9 := row_alloc w1 #[.int .i64 an, .int .i64 ai] 32
  replace f0 := (f0.trans f1).alloc (.cells #[.int .i64 an, .int .i64 ai] 32)
  clear f1 hc
  obtain ⟨k0, k1, k2, k3, k4, k5, k6, k7⟩ := cbox_cells (k := 0) (o := 0) (r := 0) (b := 0) (x := 0) (g := 0) (n := 0) (d := false) r6
  obtain ⟨z0, z1, z2, z3, z4, z5, z6, z7⟩ := cbox_frozen r6
  obtain ⟨s0, s1, q0, q1⟩ := pair_cells r7
  have HR : Hid (Row (pput (cput (w1.alloc (.cells #[.int .i64 an, .int .i64 ai] 32)) (w.heap.size + 1) 0 0 0 0 0 0 0 false) (w.heap.size + 1 + 1) (.int .i64 0) (.int .i64 0)) (w.heap.size + 1) (cbox 0 0 0 0 0 0 0 false) 34 ∧ Row (pput (cput (w1.alloc (.cells #[.int .i64 an, .int .i64 ai] 32)) (w.heap.size + 1) 0 0 0 0 0 0 0 false) (w.heap.size + 1 + 1) (.int .i64 0) (.int .i64 0)) (w.heap.size + 1 + 1) #[.int .i64 0, .int .i64 0] 32 ∧ Fr none' w (pput (cput (w1.alloc (.cells #[.int .i64 an, .int .i64 ai] 32)) (w.heap.size + 1) 0 0 0 0 0 0 0 false) (w.heap.size + 1 + 1) (.int .i64 0) (.int .i64 0))) :=
    ⟨(pair_other (cbox_set (k := 0) (o := 0) (r := 0) (b := 0) (x := 0) (g := 0) (n := 0) (d := false) r6) (by omega) _ _), (pair_set (cput_other r7 (by omega) 0 0 0 0 0 0 0 false) _ _), (pair_fr _ _ (cbox_fr 0 0 0 0 0 0 0 false f0 (Or.inl (by omega))) (Or.inl (by omega)))⟩
  clear r6 r7 r9 f0 h0
  go_wp2_with fail
  refine bodyPost_ret (ret_crt rfl rfl HR.out.1 rfl rfl HR.out.2.1 rfl) rfl ?_
  exact ⟨rfl, HR.out.2.2⟩

set_option maxRecDepth 100000 in
set_option maxHeartbeats 1000000 in
theorem look_null (w : World) (p : Pb) (L : List Nd) (h : IsP w p L) (k o r b x g n : Int) (d : Bool) (X an ai lf E : Int) (hs : ∀ w', Fr none' w w' → Calls Try.prog 17 #[.pointer (some ⟨p.b, 0, none⟩), .agg #[.int .i64 k, .int .i64 o, .int .i64 r, .int .i64 b, .int .i64 x, .int .i64 g, .int .i64 n, .bool d], .int .u32 X, .int .i64 16] w' fun e w2 => e = .returned (.tuple #[.agg #[.int .i64 an, .int .i64 ai], .int .i64 lf, .int .i64 E]) ∧ Fr none' w' w2) (hE : (E != 0) = false) (hI : I64 an) (Ck Co Cr Cb Cx Cg Cn : Int) (Cd : Bool) (hC : getC L ⟨an, ai⟩ = K.mk Ck Co Cr Cb Cx Cg Cn Cd) (hk : (Ck != 0) = false) : Calls Try.prog 32 #[.pointer (some ⟨p.b, 0, none⟩), .agg #[.int .i64 k, .int .i64 o, .int .i64 r, .int .i64 b, .int .i64 x, .int .i64 g, .int .i64 n, .bool d], .int .u32 X] w fun e w' => e = .returned (.tuple #[.agg #[.int .i64 0, .int .i64 0, .int .i64 0, .int .i64 0, .int .i64 0, .int .i64 0, .int .i64 0, .bool false], .agg #[.int .i64 0, .int .i64 0], .int .i64 121]) ∧ Fr none' w w' := by
  have f0 := (((Fr.refl none' w).alloc (.cells #[.int .i64 k, .int .i64 o, .int .i64 r, .int .i64 b, .int .i64 x, .int .i64 g, .int .i64 n, .bool d] 34)).alloc (.cells #[.int .i64 0, .int .i64 0, .int .i64 0, .int .i64 0, .int .i64 0, .int .i64 0, .int .i64 0, .bool false] 34)).alloc (.cells #[.int .i64 0, .int .i64 0] 32)
  have r6 := (row_alloc1 w (.cells #[.int .i64 k, .int .i64 o, .int .i64 r, .int .i64 b, .int .i64 x, .int .i64 g, .int .i64 n, .bool d] 34) #[.int .i64 0, .int .i64 0, .int .i64 0, .int .i64 0, .int .i64 0, .int .i64 0, .int .i64 0, .bool false] 34).alloc (.cells #[.int .i64 0, .int .i64 0] 32)
  have r7 := row_alloc2 w (.cells #[.int .i64 k, .int .i64 o, .int .i64 r, .int .i64 b, .int .i64 x, .int .i64 g, .int .i64 n, .bool d] 34) (.cells #[.int .i64 0, .int .i64 0, .int .i64 0, .int .i64 0, .int .i64 0, .int .i64 0, .int .i64 0, .bool false] 34) #[.int .i64 0, .int .i64 0] 32
  have h0 := h.keep0 f0
  have hc := hs _ f0
  clear hs h
  go_enter Try.func32, Try.ntmps32
  go_wp2_with fail
  refine hc.mono ?_
  rintro e w1 ⟨rfl, f1⟩
  have hsz : w.heap.size + 1 + 1 < w1.heap.size := (r7.keep f1 (fun h => h)).lt
  replace r6 := (r6.keep f1 (fun h => h)).alloc (.cells #[.int .i64 an, .int .i64 ai] 32)
  replace r7 := (r7.keep f1 (fun h => h)).alloc (.cells #[.int .i64 an, .int .i64 ai] 32)
  replace h0 := (h0.keep0 f1).keep0 ((Fr.refl none' w1).alloc (.cells #[.int .i64 an, .int .i64 ai] 32))
  have r9 := row_alloc w1 #[.int .i64 an, .int .i64 ai] 32
  replace f0 := (f0.trans f1).alloc (.cells #[.int .i64 an, .int .i64 ai] 32)
  clear f1 hc
  obtain ⟨y0, y1, y2, y3⟩ := pair_cells r9
  have hG := get_any _ p L h0 ⟨an, ai⟩ hI
  rw [hC] at hG
  generalize getE L ⟨an, ai⟩ = GE at *
  replace hG : Calls Try.prog 20 #[.pointer (some ⟨p.b, 0, none⟩), .agg #[.int .i64 an, .int .i64 ai]] (w1.alloc (.cells #[.int .i64 an, .int .i64 ai] 32)) fun e w' => e = .returned (.tuple #[.agg #[.int .i64 Ck, .int .i64 Co, .int .i64 Cr, .int .i64 Cb, .int .i64 Cx, .int .i64 Cg, .int .i64 Cn, .bool Cd], .int .i64 GE]) ∧ Fr none' (w1.alloc (.cells #[.int .i64 an, .int .i64 ai] 32)) w' := hG
  go_wp2_with fail
  refine hG.mono ?_
  rintro e w2 ⟨rfl, f1⟩
  clear hG y0 y1 y2 y3 h0
  have hsz2 : w1.heap.size < w2.heap.size := (r9.keep f1 (fun h => h)).lt
  replace r6 := (r6.keep f1 (fun h => h)).alloc (.cells #[.int .i64 Ck, .int .i64 Co, .int .i64 Cr, .int .i64 Cb, .int .i64 Cx, .int .i64 Cg, .int .i64 Cn, .bool Cd] 34)
  replace r7 := (r7.keep f1 (fun h => h)).alloc (.cells #[.int .i64 Ck, .int .i64 Co, .int .i64 Cr, .int .i64 Cb, .int .i64 Cx, .int .i64 Cg, .int .i64 Cn, .bool Cd] 34)
  replace r9 := (r9.keep f1 (fun h => h)).alloc (.cells #[.int .i64 Ck, .int .i64 Co, .int .i64 Cr, .int .i64 Cb, .int .i64 Cx, .int .i64 Cg, .int .i64 Cn, .bool Cd] 34)
  replace f0 := (f0.trans f1).alloc (.cells #[.int .i64 Ck, .int .i64 Co, .int .i64 Cr, .int .i64 Cb, .int .i64 Cx, .int .i64 Cg, .int .i64 Cn, .bool Cd] 34)
  have r12 := row_alloc w2 (cbox Ck Co Cr Cb Cx Cg Cn Cd) 34
  clear f1
  have hF := isfull_any (K.mk Ck Co Cr Cb Cx Cg Cn Cd) (w2.alloc (.cells #[.int .i64 Ck, .int .i64 Co, .int .i64 Cr, .int .i64 Cb, .int .i64 Cx, .int .i64 Cg, .int .i64 Cn, .bool Cd] 34))
  replace hF : Calls Try.prog 34 #[.agg #[.int .i64 Ck, .int .i64 Co, .int .i64 Cr, .int .i64 Cb, .int .i64 Cx, .int .i64 Cg, .int .i64 Cn, .bool Cd]] (w2.alloc (.cells #[.int .i64 Ck, .int .i64 Co, .int .i64 Cr, .int .i64 Cb, .int .i64 Cx, .int .i64 Cg, .int .i64 Cn, .bool Cd] 34)) fun e w' => e = .returned (.bool (Ck != 0)) ∧ Fr none' (w2.alloc (.cells #[.int .i64 Ck, .int .i64 Co, .int .i64 Cr, .int .i64 Cb, .int .i64 Cx, .int .i64 Cg, .int .i64 Cn, .bool Cd] 34)) w' := hF
  rw [hk] at hF
  go_wp2_with fail
  refine hF.mono ?_
  rintro e w3 ⟨rfl, f1⟩
  replace r6 := r6.keep f1 (fun h => h)
  replace r7 := r7.keep f1 (fun h => h)
  replace r9 := r9.keep f1 (fun h => h)
  replace r12 := r12.keep f1 (fun h => h)
  replace f0 := f0.trans f1
  clear f1 hF
  obtain ⟨k0, k1, k2, k3, k4, k5, k6, k7⟩ := cbox_cells (k := 0) (o := 0) (r := 0) (b := 0) (x := 0) (g := 0) (n := 0) (d := false) r6
  obtain ⟨z0, z1, z2, z3, z4, z5, z6, z7⟩ := cbox_frozen r6
  obtain ⟨s0, s1, q0, q1⟩ := pair_cells r7
  have HR : Hid (Row (pput (cput w3 (w.heap.size + 1) 0 0 0 0 0 0 0 false) (w.heap.size + 1 + 1) (.int .i64 0) (.int .i64 0)) (w.heap.size + 1) (cbox 0 0 0 0 0 0 0 false) 34 ∧ Row (pput (cput w3 (w.heap.size + 1) 0 0 0 0 0 0 0 false) (w.heap.size + 1 + 1) (.int .i64 0) (.int .i64 0)) (w.heap.size + 1 + 1) #[.int .i64 0, .int .i64 0] 32 ∧ Fr none' w (pput (cput w3 (w.heap.size + 1) 0 0 0 0 0 0 0 false) (w.heap.size + 1 + 1) (.int .i64 0) (.int .i64 0))) :=
    ⟨(pair_other (cbox_set (k := 0) (o := 0) (r := 0) (b := 0) (x := 0) (g := 0) (n := 0) (d := false) r6) (by omega) _ _), (pair_set (cput_other r7 (by omega) 0 0 0 0 0 0 0 false) _ _), (pair_fr _ _ (cbox_fr 0 0 0 0 0 0 0 false f0 (Or.inl (by omega))) (Or.inl (by omega)))⟩
  clear r6 r7 r9 r12 f0
  go_wp2_with fail
  refine bodyPost_ret (ret_crt rfl rfl HR.out.1 rfl rfl HR.out.2.1 rfl) rfl ?_
  exact ⟨rfl, HR.out.2.2⟩

set_option maxRecDepth 100000 in
set_option maxHeartbeats 1000000 in
theorem look_ok (w : World) (p : Pb) (L : List Nd) (h : IsP w p L) (k o r b x g n : Int) (d : Bool) (X an ai lf E : Int) (hs : ∀ w', Fr none' w w' → Calls Try.prog 17 #[.pointer (some ⟨p.b, 0, none⟩), .agg #[.int .i64 k, .int .i64 o, .int .i64 r, .int .i64 b, .int .i64 x, .int .i64 g, .int .i64 n, .bool d], .int .u32 X, .int .i64 16] w' fun e w2 => e = .returned (.tuple #[.agg #[.int .i64 an, .int .i64 ai], .int .i64 lf, .int .i64 E]) ∧ Fr none' w' w2) (hE : (E != 0) = false) (hI : I64 an) (Ck Co Cr Cb Cx Cg Cn : Int) (Cd : Bool) (hC : getC L ⟨an, ai⟩ = K.mk Ck Co Cr Cb Cx Cg Cn Cd) (hk : (Ck != 0) = true) : Calls Try.prog 32 #[.pointer (some ⟨p.b, 0, none⟩), .agg #[.int .i64 k, .int .i64 o, .int .i64 r, .int .i64 b, .int .i64 x, .int .i64 g, .int .i64 n, .bool d], .int .u32 X] w fun e w' => e = .returned (.tuple #[.agg #[.int .i64 Ck, .int .i64 Co, .int .i64 Cr, .int .i64 Cb, .int .i64 Cx, .int .i64 Cg, .int .i64 Cn, .bool Cd], .agg #[.int .i64 an, .int .i64 ai], .int .i64 0]) ∧ Fr none' w w' := by
  have f0 := (((Fr.refl none' w).alloc (.cells #[.int .i64 k, .int .i64 o, .int .i64 r, .int .i64 b, .int .i64 x, .int .i64 g, .int .i64 n, .bool d] 34)).alloc (.cells #[.int .i64 0, .int .i64 0, .int .i64 0, .int .i64 0, .int .i64 0, .int .i64 0, .int .i64 0, .bool false] 34)).alloc (.cells #[.int .i64 0, .int .i64 0] 32)
  have r6 := (row_alloc1 w (.cells #[.int .i64 k, .int .i64 o, .int .i64 r, .int .i64 b, .int .i64 x, .int .i64 g, .int .i64 n, .bool d] 34) #[.int .i64 0, .int .i64 0, .int .i64 0, .int .i64 0, .int .i64 0, .int .i64 0, .int .i64 0, .bool false] 34).alloc (.cells #[.int .i64 0, .int .i64 0] 32)
  have r7 := row_alloc2 w (.cells #[.int .i64 k, .int .i64 o, .int .i64 r, .int .i64 b, .int .i64 x, .int .i64 g, .int .i64 n, .bool d] 34) (.cells #[.int .i64 0, .int .i64 0, .int .i64 0, .int .i64 0, .int .i64 0, .int .i64 0, .int .i64 0, .bool false] 34) #[.int .i64 0, .int .i64 0] 32
  have h0 := h.keep0 f0
  have hc := hs _ f0
  clear hs h
  go_enter Try.func32, Try.ntmps32
  go_wp2_with fail
  refine hc.mono ?_
  rintro e w1 ⟨rfl, f1⟩
  have hsz : w.heap.size + 1 + 1 < w1.heap.size := (r7.keep f1 (fun h => h)).lt
  replace r6 := (r6.keep f1 (fun h => h)).alloc (.cells #[.int .i64 an, .int .i64 ai] 32)
  replace r7 := (r7.keep f1 (fun h => h)).alloc (.cells #[.int .i64 an, .int .i64 ai] 32)
  replace h0 := (h0.keep0 f1).keep0 ((Fr.refl none' w1).alloc (.cells #[.int .i64 an, .int .i64 ai] 32))
  have r9 := row_alloc w1 #[.int .i64 an, .int .i64 ai] 32
  replace f0 := (f0.trans f1).alloc (.cells #[.int .i64 an, .int .i64 ai] 32)
  clear f1 hc
  obtain ⟨y0, y1, y2, y3⟩ := pair_cells r9
  have hG := get_any _ p L h0 ⟨an, ai⟩ hI
  rw [hC] at hG
  generalize getE L ⟨an, ai⟩ = GE at *
  replace hG : Calls Try.prog 20 #[.pointer (some ⟨p.b, 0, none⟩), .agg #[.int .i64 an, .int .i64 ai]] (w1.alloc (.cells #[.int .i64 an, .int .i64 ai] 32)) fun e w' => e = .returned (.tuple #[.agg #[.int .i64 Ck, .int .i64 Co, .int .i64 Cr, .int .i64 Cb, .int .i64 Cx, .int .i64 Cg, .int .i64 Cn, .bool Cd], .int .i64 GE]) ∧ Fr none' (w1.alloc (.cells #[.int .i64 an, .int .i64 ai] 32)) w' := hG
  go_wp2_with fail
  refine hG.mono ?_
  rintro e w2 ⟨rfl, f1⟩
  clear hG y0 y1 y2 y3 h0
  have hsz2 : w1.heap.size < w2.heap.size := (r9.keep f1 (fun h => h)).lt
  replace r6 := (r6.keep f1 (fun h => h)).alloc (.cells #[.int .i64 Ck, .int .i64 Co, .int .i64 Cr, .int .i64 Cb, .int .i64 Cx, .int .i64 Cg, .int .i64 Cn, .bool Cd] 34)
  replace r7 := (r7.keep f1 (fun h => h)).alloc (.cells #[.int .i64 Ck, .int .i64 Co, .int .i64 Cr, .int .i64 Cb, .int .i64 Cx, .int .i64 Cg, .int .i64 Cn, .bool Cd] 34)
  replace r9 := (r9.keep f1 (fun h => h)).alloc (.cells #[.int .i64 Ck, .int .i64 Co, .int .i64 Cr, .int .i64 Cb, .int .i64 Cx, .int .i64 Cg, .int .i64 Cn, .bool Cd] 34)
  replace f0 := (f0.trans f1).alloc (.cells #[.int .i64 Ck, .int .i64 Co, .int .i64 Cr, .int .i64 Cb, .int .i64 Cx, .int .i64 Cg, .int .i64 Cn, .bool Cd] 34)
  have r12 := row_alloc w2 (cbox Ck Co Cr Cb Cx Cg Cn Cd) 34
  clear f1
  have hF := isfull_any (K.mk Ck Co Cr Cb Cx Cg Cn Cd) (w2.alloc (.cells #[.int .i64 Ck, .int .i64 Co, .int .i64 Cr, .int .i64 Cb, .int .i64 Cx, .int .i64 Cg, .int .i64 Cn, .bool Cd] 34))
  replace hF : Calls Try.prog 34 #[.agg #[.int .i64 Ck, .int .i64 Co, .int .i64 Cr, .int .i64 Cb, .int .i64 Cx, .int .i64 Cg, .int .i64 Cn, .bool Cd]] (w2.alloc (.cells #[.int .i64 Ck, .int .i64 Co, .int .i64 Cr, .int .i64 Cb, .int .i64 Cx, .int .i64 Cg, .int .i64 Cn, .bool Cd] 34)) fun e w' => e = .returned (.bool (Ck != 0)) ∧ Fr none' (w2.alloc (.cells #[.int .i64 Ck, .int .i64 Co, .int .i64 Cr, .int .i64 Cb, .int .i64 Cx, .int .i64 Cg, .int .i64 Cn, .bool Cd] 34)) w' := hF
  rw [hk] at hF
  go_wp2_with fail
  refine hF.mono ?_
  rintro e w3 ⟨rfl, f1⟩
  replace r6 := r6.keep f1 (fun h => h)
  replace r7 := r7.keep f1 (fun h => h)
  replace r9 := r9.keep f1 (fun h => h)
  replace r12 := r12.keep f1 (fun h => h)
  replace f0 := f0.trans f1
  clear f1 hF
  obtain ⟨k0, k1, k2, k3, k4, k5, k6, k7⟩ := cbox_cells (k := 0) (o := 0) (r := 0) (b := 0) (x := 0) (g := 0) (n := 0) (d := false) r6
  obtain ⟨z0, z1, z2, z3, z4, z5, z6, z7⟩ := cbox_frozen r6
  obtain ⟨s0, s1, q0, q1⟩ := pair_cells r7
  obtain ⟨y0, y1, y2, y3⟩ := pair_cells r9
  obtain ⟨u0, u1, u2, u3, u4, u5, u6, u7⟩ := cbox_cells r12
  have HR : Hid (Row (pput (cput w3 (w.heap.size + 1) Ck Co Cr Cb Cx Cg Cn Cd) (w.heap.size + 1 + 1) (.int .i64 an) (.int .i64 ai)).drew (w.heap.size + 1) (cbox Ck Co Cr Cb Cx Cg Cn Cd) 34 ∧ Row (pput (cput w3 (w.heap.size + 1) Ck Co Cr Cb Cx Cg Cn Cd) (w.heap.size + 1 + 1) (.int .i64 an) (.int .i64 ai)).drew (w.heap.size + 1 + 1) #[.int .i64 an, .int .i64 ai] 32 ∧ Fr none' w (pput (cput w3 (w.heap.size + 1) Ck Co Cr Cb Cx Cg Cn Cd) (w.heap.size + 1 + 1) (.int .i64 an) (.int .i64 ai)).drew) :=
    ⟨(pair_other (cbox_set (k := 0) (o := 0) (r := 0) (b := 0) (x := 0) (g := 0) (n := 0) (d := false) r6) (by omega) _ _).drew, (pair_set (cput_other r7 (by omega) Ck Co Cr Cb Cx Cg Cn Cd) _ _).drew, (pair_fr _ _ (cbox_fr Ck Co Cr Cb Cx Cg Cn Cd f0 (Or.inl (by omega))) (Or.inl (by omega))).drew⟩
  clear r6 r7 r9 r12 f0
  go_wp2_with fail
  go_region
  all_goals go_wp2_with fail
  all_goals (refine bodyPost_ret (ret_crt rfl rfl HR.out.1 rfl rfl HR.out.2.1 rfl) rfl ?_; exact ⟨rfl, HR.out.2.2⟩)

theorem lookup_any (w : World) (p : Pb) (L : List Nd) (h : IsP w p L) (c : K) (hr : I64 c.r) (X : Nat) (hX : X < 4294967296) : Calls Try.prog 32 #[.pointer (some ⟨p.b, 0, none⟩), .agg (capV c), .int .u32 (X : Int)] w fun e w' => e = .returned (.tuple #[.agg (capV (lookC L c X)), .agg #[.int .i64 (lookA L c X).n, .int .i64 (lookA L c X).i], .int .i64 (lookE L c X)]) ∧ Fr none' w w' := by
  have hs := fun w' f => resolve_any w' p L (h.keep0 (f : Fr none' w w')) c hr X hX 16
  have hin := @resR_in L h.good c X 16
  unfold lookC lookA lookE
  generalize resR L c X 16 = R at hs hin ⊢
  obtain ⟨k, o, r, b, x, g, n, d⟩ := c
  obtain ⟨⟨an, ai⟩, lf, E⟩ := R
  dsimp only at hs hin ⊢
  by_cases hE : E = 0
  · rw [if_neg (show ¬ (E ≠ 0) by simpa using hE)]
    obtain ⟨_, _, hI⟩ := hin hE
    obtain ⟨C, hC⟩ : ∃ C, getC L ⟨an, ai⟩ = C := ⟨_, rfl⟩
    rw [hC]
    obtain ⟨Ck, Co, Cr, Cb, Cx, Cg, Cn, Cd⟩ := C
    dsimp only
    by_cases hk : Ck = 0
    · rw [if_pos hk, if_neg (show ¬ ((121 : Int) = 0) by decide), if_neg (show ¬ ((121 : Int) = 0) by decide)]
      exact look_null w p L h k o r b x g n d X an ai lf E hs (by simpa using hE) hI Ck Co Cr Cb Cx Cg Cn Cd hC (by simpa using hk)
    · rw [if_neg hk, if_pos rfl, if_pos rfl]
      exact look_ok w p L h k o r b x g n d X an ai lf E hs (by simpa using hE) hI Ck Co Cr Cb Cx Cg Cn Cd hC (by simpa using hk)
  · rw [if_pos (show E ≠ 0 from hE), if_neg hE, if_neg hE]
    exact look_err w p L h k o r b x g n d X an ai lf E hs (by simpa using hE)

end Go.Proofs.Ytibdkadojoeopaa
