/-
  The walk of the law CapsLess: for every cap and all numbers the law returns true, and nothing old turns.
-/
import Derived.Test.YtiiiiapaggkdkaaCapAwake
import Derived.Test.YtiiiiapaggkdkaaCapLaws
namespace Go.Proofs.Ytiiiiapaggkdkaa
open Go.RowKit

set_option maxRecDepth 100000 in
set_option maxHeartbeats 1600000 in
theorem less_no (k o r b x g n : Int) (d : Bool) (q y g' n' : Int) (w : World) (hr : I64 r) (h : rightC (K.mk k o r b x g n d) = false) : Calls Try.prog 6 #[.agg #[.int .i64 k, .int .i64 o, .int .i64 r, .int .i64 b, .int .i64 x, .int .i64 g, .int .i64 n, .bool d], .int .i64 q, .int .i64 y, .int .i64 g', .int .i64 n'] w fun e w' => e = .returned (.bool true) ∧ Fr none' w w' := by
  have f0 := ((Fr.refl none' w).alloc (.cells (cbox k o r b x g n d) 23))
  have rc := row_alloc w (cbox k o r b x g n d) 23
  unfold cbox at f0 rc
  have R := fun w => right_any k o r b x g n d w hr
  rw [h] at R
  clear h hr
  go_enter Try.func6, Try.ntmps6
  obtain ⟨rcc0, rcc1, rcc2, rcc3, rcc4, rcc5, rcc6, rcc7⟩ := cbox_cells rc
  go_wp2_with fail
  refine (awake_any _).mono ?_
  rintro e w1 ⟨rfl, f1⟩
  clear rcc0 rcc1 rcc2 rcc3 rcc4 rcc5 rcc6 rcc7
  replace rc := rc.keep f1 (fun h => h)
  replace f0 := f0.trans f1
  clear f1
  obtain ⟨rcc0, rcc1, rcc2, rcc3, rcc4, rcc5, rcc6, rcc7⟩ := cbox_cells rc
  go_wp2_with fail
  refine (R _).mono ?_
  rintro e w2 ⟨rfl, f1⟩
  clear rcc0 rcc1 rcc2 rcc3 rcc4 rcc5 rcc6 rcc7
  replace rc := rc.keep f1 (fun h => h)
  replace f0 := f0.trans f1
  clear f1
  obtain ⟨rcc0, rcc1, rcc2, rcc3, rcc4, rcc5, rcc6, rcc7⟩ := cbox_cells rc
  go_wp2_with fail
  go_ret
  exact ⟨rfl, f0⟩

set_option maxRecDepth 100000 in
set_option maxHeartbeats 1600000 in
theorem less_err (k o r b x g n : Int) (d : Bool) (q y g' n' : Int) (w : World) (h : rightC (K.mk k o r b x g n d) = true) (he : mintE (K.mk k o r b x g n d) y g' n' ≠ 0) : Calls Try.prog 6 #[.agg #[.int .i64 k, .int .i64 o, .int .i64 r, .int .i64 b, .int .i64 x, .int .i64 g, .int .i64 n, .bool d], .int .i64 q, .int .i64 y, .int .i64 g', .int .i64 n'] w fun e w' => e = .returned (.bool true) ∧ Fr none' w w' := by
  have f0 := ((Fr.refl none' w).alloc (.cells (cbox k o r b x g n d) 23))
  have rc := row_alloc w (cbox k o r b x g n d) 23
  unfold cbox at f0 rc
  have R := fun w => right_any k o r b x g n d w (right_i64 h)
  rw [h] at R
  have Mk := fun w => mask_any k o r b x g n d q w
  have Mi := fun w => mint_any k o r b x g n d q y g' n' w
  have mr := mask_right h q
  have ml := mask_less (K.mk k o r b x g n d) q
  have mo := mask_o (K.mk k o r b x g n d) q
  have mk := mask_k' (K.mk k o r b x g n d) q
  have mi := mask_i64 (right_i64 h) q
  have xe := mint_err (K.mk k o r b x g n d) q y g' n' he
  rw [xe] at Mi
  have t1 : (mintE (K.mk k o r b x g n d) y g' n' != 0) = true := by simpa using he
  clear he xe h
  replace Mi : ∀ w, Calls Try.prog 20 #[.agg #[.int .i64 k, .int .i64 o, .int .i64 r, .int .i64 b, .int .i64 x, .int .i64 g, .int .i64 n, .bool d], .int .i64 q, .int .i64 y, .int .i64 g', .int .i64 n'] w fun e w' => e = .returned (.tuple #[.agg #[.int .i64 0, .int .i64 0, .int .i64 0, .int .i64 0, .int .i64 0, .int .i64 0, .int .i64 0, .bool false], .int .i64 (mintE (K.mk k o r b x g n d) y g' n')]) ∧ Fr none' w w' := Mi
  generalize mintE (K.mk k o r b x g n d) y g' n' = z at *
  generalize maskC (K.mk k o r b x g n d) q = m at *
  obtain ⟨k2, o2, r2, b2, x2, g2, n2, d2⟩ := m
  dsimp only at ml mo mk mi Mk
  subst mo mk
  have R2 := fun w => right_any k2 o2 r2 b2 x2 g2 n2 d2 w mi
  rw [mr] at R2
  have R3 := fun w => right_any 0 0 0 0 0 0 0 false w (by unfold I64; omega)
  generalize rightC (K.mk 0 0 0 0 0 0 0 false) = v at *
  clear mr mi
  have heq := fun w => eq_cap 0 0 0 0 0 0 0 0 0 0 0 0 0 0 false false w
  rw [eqK_self] at heq
  go_enter Try.func6, Try.ntmps6
  obtain ⟨rcc0, rcc1, rcc2, rcc3, rcc4, rcc5, rcc6, rcc7⟩ := cbox_cells rc
  go_wp2_with fail
  refine (awake_any _).mono ?_
  rintro e w1 ⟨rfl, f1⟩
  clear rcc0 rcc1 rcc2 rcc3 rcc4 rcc5 rcc6 rcc7
  replace rc := rc.keep f1 (fun h => h)
  replace f0 := f0.trans f1
  clear f1
  obtain ⟨rcc0, rcc1, rcc2, rcc3, rcc4, rcc5, rcc6, rcc7⟩ := cbox_cells rc
  go_wp2_with fail
  refine (R _).mono ?_
  rintro e w2 ⟨rfl, f1⟩
  clear rcc0 rcc1 rcc2 rcc3 rcc4 rcc5 rcc6 rcc7
  replace rc := rc.keep f1 (fun h => h)
  replace f0 := f0.trans f1
  clear f1
  obtain ⟨rcc0, rcc1, rcc2, rcc3, rcc4, rcc5, rcc6, rcc7⟩ := cbox_cells rc
  go_wp2_with fail
  refine (Mk _).mono ?_
  rintro e w3 ⟨rfl, f1⟩
  clear rcc0 rcc1 rcc2 rcc3 rcc4 rcc5 rcc6 rcc7
  replace rc := rc.keep f1 (fun h => h)
  replace f0 := f0.trans f1
  clear f1
  have rm := row_alloc w3 (cbox k2 o2 r2 b2 x2 g2 n2 d2) 23
  replace rc := rc.alloc (.cells (cbox k2 o2 r2 b2 x2 g2 n2 d2) 23)
  replace f0 := f0.alloc (.cells (cbox k2 o2 r2 b2 x2 g2 n2 d2) 23)
  unfold cbox at f0 rc rm
  obtain ⟨rcc0, rcc1, rcc2, rcc3, rcc4, rcc5, rcc6, rcc7⟩ := cbox_cells rc
  obtain ⟨rmc0, rmc1, rmc2, rmc3, rmc4, rmc5, rmc6, rmc7⟩ := cbox_cells rm
  go_wp2_with fail
  refine (Mi _).mono ?_
  rintro e w4 ⟨rfl, f1⟩
  clear rcc0 rcc1 rcc2 rcc3 rcc4 rcc5 rcc6 rcc7 rmc0 rmc1 rmc2 rmc3 rmc4 rmc5 rmc6 rmc7
  replace rc := rc.keep f1 (fun h => h)
  replace rm := rm.keep f1 (fun h => h)
  replace f0 := f0.trans f1
  clear f1
  have rx := row_alloc w4 (cbox 0 0 0 0 0 0 0 false) 23
  replace rc := rc.alloc (.cells (cbox 0 0 0 0 0 0 0 false) 23)
  replace rm := rm.alloc (.cells (cbox 0 0 0 0 0 0 0 false) 23)
  replace f0 := f0.alloc (.cells (cbox 0 0 0 0 0 0 0 false) 23)
  unfold cbox at f0 rc rm rx
  obtain ⟨rcc0, rcc1, rcc2, rcc3, rcc4, rcc5, rcc6, rcc7⟩ := cbox_cells rc
  obtain ⟨rmc0, rmc1, rmc2, rmc3, rmc4, rmc5, rmc6, rmc7⟩ := cbox_cells rm
  obtain ⟨rxc0, rxc1, rxc2, rxc3, rxc4, rxc5, rxc6, rxc7⟩ := cbox_cells rx
  go_wp2_with fail
  refine (R2 _).mono ?_
  rintro e w5 ⟨rfl, f1⟩
  clear rcc0 rcc1 rcc2 rcc3 rcc4 rcc5 rcc6 rcc7 rmc0 rmc1 rmc2 rmc3 rmc4 rmc5 rmc6 rmc7 rxc0 rxc1 rxc2 rxc3 rxc4 rxc5 rxc6 rxc7
  replace rc := rc.keep f1 (fun h => h)
  replace rm := rm.keep f1 (fun h => h)
  replace rx := rx.keep f1 (fun h => h)
  replace f0 := f0.trans f1
  clear f1
  obtain ⟨rcc0, rcc1, rcc2, rcc3, rcc4, rcc5, rcc6, rcc7⟩ := cbox_cells rc
  obtain ⟨rmc0, rmc1, rmc2, rmc3, rmc4, rmc5, rmc6, rmc7⟩ := cbox_cells rm
  obtain ⟨rxc0, rxc1, rxc2, rxc3, rxc4, rxc5, rxc6, rxc7⟩ := cbox_cells rx
  go_wp2_with fail
  refine (R3 _).mono ?_
  rintro e w6 ⟨rfl, f1⟩
  clear rcc0 rcc1 rcc2 rcc3 rcc4 rcc5 rcc6 rcc7 rmc0 rmc1 rmc2 rmc3 rmc4 rmc5 rmc6 rmc7 rxc0 rxc1 rxc2 rxc3 rxc4 rxc5 rxc6 rxc7
  replace rc := rc.keep f1 (fun h => h)
  replace rm := rm.keep f1 (fun h => h)
  replace rx := rx.keep f1 (fun h => h)
  replace f0 := f0.trans f1
  clear f1
  obtain ⟨rcc0, rcc1, rcc2, rcc3, rcc4, rcc5, rcc6, rcc7⟩ := cbox_cells rc
  obtain ⟨rmc0, rmc1, rmc2, rmc3, rmc4, rmc5, rmc6, rmc7⟩ := cbox_cells rm
  obtain ⟨rxc0, rxc1, rxc2, rxc3, rxc4, rxc5, rxc6, rxc7⟩ := cbox_cells rx
  go_wp2_with fail
  go_ret
  exact ⟨rfl, f0⟩

set_option maxRecDepth 100000 in
set_option maxHeartbeats 1600000 in
theorem less_ok (k o r b x g n : Int) (d : Bool) (q y g' n' : Int) (w : World) (h : rightC (K.mk k o r b x g n d) = true) (he : mintE (K.mk k o r b x g n d) y g' n' = 0) (hb : Hid ((b == 0) = true ∨ (b == 0) = false ∧ ((mintC (K.mk k o r b x g n d) q y g' n').b == b) = true)) : Calls Try.prog 6 #[.agg #[.int .i64 k, .int .i64 o, .int .i64 r, .int .i64 b, .int .i64 x, .int .i64 g, .int .i64 n, .bool d], .int .i64 q, .int .i64 y, .int .i64 g', .int .i64 n'] w fun e w' => e = .returned (.bool true) ∧ Fr none' w w' := by
  have f0 := ((Fr.refl none' w).alloc (.cells (cbox k o r b x g n d) 23))
  have rc := row_alloc w (cbox k o r b x g n d) 23
  unfold cbox at f0 rc
  have R := fun w => right_any k o r b x g n d w (right_i64 h)
  rw [h] at R
  have Mk := fun w => mask_any k o r b x g n d q w
  have Mi := fun w => mint_any k o r b x g n d q y g' n' w
  have mr := mask_right h q
  have ml := mask_less (K.mk k o r b x g n d) q
  have mo := mask_o (K.mk k o r b x g n d) q
  have mk := mask_k' (K.mk k o r b x g n d) q
  have mi := mask_i64 (right_i64 h) q
  obtain ⟨xs, xl, xd, xb, xk⟩ := mint_same (K.mk k o r b x g n d) q y g' n' he
  clear xb xk
  have xr := mint_right h q y g' n' he
  have xi := mint_i64 (c := (K.mk k o r b x g n d)) (right_i64 h) q y g' n'
  rw [he] at Mi
  clear he h
  generalize mintC (K.mk k o r b x g n d) q y g' n' = u at *
  obtain ⟨k3, o3, r3, b3, x3, g3, n3, d3⟩ := u
  generalize maskC (K.mk k o r b x g n d) q = m at *
  obtain ⟨k2, o2, r2, b2, x2, g2, n2, d2⟩ := m
  dsimp only at ml mo mk mi Mk Mi xl xd xi hb
  subst mo mk xd
  have R2 := fun w => right_any k2 o2 r2 b2 x2 g2 n2 d2 w mi
  rw [mr] at R2
  have R3 := fun w => right_any k3 o3 r3 b3 x3 g3 n3 d3 w xi
  rw [xr] at R3
  have Sm := fun w => same_any k2 o2 r b x g n d3 k3 o3 r3 b3 x3 g3 n3 d3 w
  rw [xs] at Sm
  clear mr mi xi xr xs
  have ml' : (bits .andNot .i64 r2 r != 0) = false := by rw [ml]; rfl
  have xl' : (bits .andNot .i64 r3 r == 0) = true := by rw [xl]; rfl
  have dd : (d3 == d3) = true := by simp
  clear ml xl
  go_enter Try.func6, Try.ntmps6
  obtain ⟨rcc0, rcc1, rcc2, rcc3, rcc4, rcc5, rcc6, rcc7⟩ := cbox_cells rc
  go_wp2_with fail
  refine (awake_any _).mono ?_
  rintro e w1 ⟨rfl, f1⟩
  clear rcc0 rcc1 rcc2 rcc3 rcc4 rcc5 rcc6 rcc7
  replace rc := rc.keep f1 (fun h => h)
  replace f0 := f0.trans f1
  clear f1
  obtain ⟨rcc0, rcc1, rcc2, rcc3, rcc4, rcc5, rcc6, rcc7⟩ := cbox_cells rc
  go_wp2_with fail
  refine (R _).mono ?_
  rintro e w2 ⟨rfl, f1⟩
  clear rcc0 rcc1 rcc2 rcc3 rcc4 rcc5 rcc6 rcc7
  replace rc := rc.keep f1 (fun h => h)
  replace f0 := f0.trans f1
  clear f1
  obtain ⟨rcc0, rcc1, rcc2, rcc3, rcc4, rcc5, rcc6, rcc7⟩ := cbox_cells rc
  go_wp2_with fail
  refine (Mk _).mono ?_
  rintro e w3 ⟨rfl, f1⟩
  clear rcc0 rcc1 rcc2 rcc3 rcc4 rcc5 rcc6 rcc7
  replace rc := rc.keep f1 (fun h => h)
  replace f0 := f0.trans f1
  clear f1
  have rm := row_alloc w3 (cbox k2 o2 r2 b2 x2 g2 n2 d2) 23
  replace rc := rc.alloc (.cells (cbox k2 o2 r2 b2 x2 g2 n2 d2) 23)
  replace f0 := f0.alloc (.cells (cbox k2 o2 r2 b2 x2 g2 n2 d2) 23)
  unfold cbox at f0 rc rm
  obtain ⟨rcc0, rcc1, rcc2, rcc3, rcc4, rcc5, rcc6, rcc7⟩ := cbox_cells rc
  obtain ⟨rmc0, rmc1, rmc2, rmc3, rmc4, rmc5, rmc6, rmc7⟩ := cbox_cells rm
  go_wp2_with fail
  refine (Mi _).mono ?_
  rintro e w4 ⟨rfl, f1⟩
  clear rcc0 rcc1 rcc2 rcc3 rcc4 rcc5 rcc6 rcc7 rmc0 rmc1 rmc2 rmc3 rmc4 rmc5 rmc6 rmc7
  replace rc := rc.keep f1 (fun h => h)
  replace rm := rm.keep f1 (fun h => h)
  replace f0 := f0.trans f1
  clear f1
  have rx := row_alloc w4 (cbox k3 o3 r3 b3 x3 g3 n3 d3) 23
  replace rc := rc.alloc (.cells (cbox k3 o3 r3 b3 x3 g3 n3 d3) 23)
  replace rm := rm.alloc (.cells (cbox k3 o3 r3 b3 x3 g3 n3 d3) 23)
  replace f0 := f0.alloc (.cells (cbox k3 o3 r3 b3 x3 g3 n3 d3) 23)
  unfold cbox at f0 rc rm rx
  obtain ⟨rcc0, rcc1, rcc2, rcc3, rcc4, rcc5, rcc6, rcc7⟩ := cbox_cells rc
  obtain ⟨rmc0, rmc1, rmc2, rmc3, rmc4, rmc5, rmc6, rmc7⟩ := cbox_cells rm
  obtain ⟨rxc0, rxc1, rxc2, rxc3, rxc4, rxc5, rxc6, rxc7⟩ := cbox_cells rx
  go_wp2_with fail
  refine (R2 _).mono ?_
  rintro e w5 ⟨rfl, f1⟩
  clear rcc0 rcc1 rcc2 rcc3 rcc4 rcc5 rcc6 rcc7 rmc0 rmc1 rmc2 rmc3 rmc4 rmc5 rmc6 rmc7 rxc0 rxc1 rxc2 rxc3 rxc4 rxc5 rxc6 rxc7
  replace rc := rc.keep f1 (fun h => h)
  replace rm := rm.keep f1 (fun h => h)
  replace rx := rx.keep f1 (fun h => h)
  replace f0 := f0.trans f1
  clear f1
  obtain ⟨rcc0, rcc1, rcc2, rcc3, rcc4, rcc5, rcc6, rcc7⟩ := cbox_cells rc
  obtain ⟨rmc0, rmc1, rmc2, rmc3, rmc4, rmc5, rmc6, rmc7⟩ := cbox_cells rm
  obtain ⟨rxc0, rxc1, rxc2, rxc3, rxc4, rxc5, rxc6, rxc7⟩ := cbox_cells rx
  go_wp2_with fail
  refine (R3 _).mono ?_
  rintro e w6 ⟨rfl, f1⟩
  clear rcc0 rcc1 rcc2 rcc3 rcc4 rcc5 rcc6 rcc7 rmc0 rmc1 rmc2 rmc3 rmc4 rmc5 rmc6 rmc7 rxc0 rxc1 rxc2 rxc3 rxc4 rxc5 rxc6 rxc7
  replace rc := rc.keep f1 (fun h => h)
  replace rm := rm.keep f1 (fun h => h)
  replace rx := rx.keep f1 (fun h => h)
  replace f0 := f0.trans f1
  clear f1
  obtain ⟨rcc0, rcc1, rcc2, rcc3, rcc4, rcc5, rcc6, rcc7⟩ := cbox_cells rc
  obtain ⟨rmc0, rmc1, rmc2, rmc3, rmc4, rmc5, rmc6, rmc7⟩ := cbox_cells rm
  obtain ⟨rxc0, rxc1, rxc2, rxc3, rxc4, rxc5, rxc6, rxc7⟩ := cbox_cells rx
  go_wp2_with fail
  refine (Sm _).mono ?_
  rintro e w7 ⟨rfl, f1⟩
  clear rcc0 rcc1 rcc2 rcc3 rcc4 rcc5 rcc6 rcc7 rmc0 rmc1 rmc2 rmc3 rmc4 rmc5 rmc6 rmc7 rxc0 rxc1 rxc2 rxc3 rxc4 rxc5 rxc6 rxc7
  replace rc := rc.keep f1 (fun h => h)
  replace rm := rm.keep f1 (fun h => h)
  replace rx := rx.keep f1 (fun h => h)
  replace f0 := f0.trans f1
  clear f1
  obtain ⟨rcc0, rcc1, rcc2, rcc3, rcc4, rcc5, rcc6, rcc7⟩ := cbox_cells rc
  obtain ⟨rmc0, rmc1, rmc2, rmc3, rmc4, rmc5, rmc6, rmc7⟩ := cbox_cells rm
  obtain ⟨rxc0, rxc1, rxc2, rxc3, rxc4, rxc5, rxc6, rxc7⟩ := cbox_cells rx
  rcases hb.out with t1 | ⟨t1, t2⟩
  · go_wp2_with fail
    go_ret
    exact ⟨rfl, f0⟩
  · go_wp2_with fail
    go_ret
    exact ⟨rfl, f0⟩

theorem less_walk (k o r b x g n : Int) (d : Bool) (q y g' n' : Int) (w : World) (hr : I64 r) : Calls Try.prog 6 #[.agg #[.int .i64 k, .int .i64 o, .int .i64 r, .int .i64 b, .int .i64 x, .int .i64 g, .int .i64 n, .bool d], .int .i64 q, .int .i64 y, .int .i64 g', .int .i64 n'] w fun e w' => e = .returned (.bool true) ∧ Fr none' w w' := by
  cases h : rightC (K.mk k o r b x g n d)
  · exact less_no k o r b x g n d q y g' n' w hr h
  · by_cases he : mintE (K.mk k o r b x g n d) y g' n' = 0
    · refine less_ok k o r b x g n d q y g' n' w h he ?_
      have hb : b = 0 ∨ (mintC (K.mk k o r b x g n d) q y g' n').b = b := (mint_same (K.mk k o r b x g n d) q y g' n' he).2.2.2.1
      by_cases h0 : b = 0
      · exact Or.inl (by simpa using h0)
      · exact Or.inr ⟨by simpa using h0, by simpa using hb.resolve_left h0⟩
    · exact less_err k o r b x g n d q y g' n' w h he

theorem less_any (k o r b x g n : Int) (d : Bool) (q y g' n' : Int) (hr : I64 r) (w : World) : Calls Try.prog 6 #[.agg #[.int .i64 k, .int .i64 o, .int .i64 r, .int .i64 b, .int .i64 x, .int .i64 g, .int .i64 n, .bool d], .int .i64 q, .int .i64 y, .int .i64 g', .int .i64 n'] w fun e w' => e = .returned (.bool true) ∧ Below w.heap.size w w' :=
  (less_walk k o r b x g n d q y g' n' w hr).mono fun _ _ ⟨he, hf⟩ => ⟨he, hf.below (Nat.le_refl _) (fun _ h => h.elim)⟩

end Go.Proofs.Ytiiiiapaggkdkaa
