/-
  The chapter's example, laid, and the contract of 'awake' over the translation: it answers true. No statement is proved here.
-/
import Derived.Test.YtknpjfbjalboeaaWalkLaid
namespace Go.Proofs.Ytknpjfbjalboeaa
open Go.RowKit

theorem size_put : (Try.prog.info? 47).map (·.size) = some 8 := by kernel_rfl

set_option maxHeartbeats 400000 in
theorem at_any (t i f r : Int) (w : World) : Calls Try.prog 41 #[.int .i64 t, .int .i64 i, .int .i64 f, .int .i64 r] w fun e w' =>
    e = .returned (.agg #[.int .i64 t, .int .i64 i, .bool true, .bool (decide (0 < r)), .int .i64 r, .int .i64 f, .bool false, .int .u16 0]) ∧ Fr none' w w' := by
  go_enter Try.func41, Try.ntmps41
  go_wp2_with fail
  refine bodyPost_ret (results_cell_row rfl _ _ _ _ _ (0, 0) _ rfl (row_alloc _ _ _) Try.underlying47 rfl size_put) rfl ?_
  exact ⟨rfl, (Fr.refl _ _).alloc _⟩

/-- The chapter's example. -/
def exP : Nat → Pt
  | 0 => ⟨1, 0, true, false, 0, 2, false, 0⟩
  | 1 => ⟨2, 5, true, true, 3, 7, false, 0⟩
  | 2 => ⟨2, 3, true, true, 1, 4, false, 0⟩
  | 3 => ⟨4, 0, true, false, 0, 6, false, 0⟩
  | 4 => ⟨2, 6, true, true, 1, 5, false, 0⟩
  | _ => ⟨5, 9, true, true, 1, 5, false, 0⟩

set_option maxHeartbeats 2000000 in
theorem example_any (w : World) : Calls Try.prog 17 #[] w fun e w' => ∃ a0 cap, e = .returned (.slice a0 6 cap) ∧ Fr none' w w' ∧ Puts w' a0 6 exP := by
  have f1 := Fr.refl none' w
  go_enter Try.func17, Try.ntmps17
  go_wp2_with fail
  refine (at_any _ _ _ _ _).mono ?_
  rintro e v1 ⟨rfl, g1⟩
  replace f1 := f1.trans g1
  clear g1
  go_wp2_with fail
  refine (at_any _ _ _ _ _).mono ?_
  rintro e v2 ⟨rfl, g2⟩
  replace f1 := f1.trans g2
  clear g2
  go_wp2_with fail
  refine (at_any _ _ _ _ _).mono ?_
  rintro e v3 ⟨rfl, g3⟩
  replace f1 := f1.trans g3
  clear g3
  go_wp2_with fail
  refine (at_any _ _ _ _ _).mono ?_
  rintro e v4 ⟨rfl, g4⟩
  replace f1 := f1.trans g4
  clear g4
  go_wp2_with fail
  refine (at_any _ _ _ _ _).mono ?_
  rintro e v5 ⟨rfl, g5⟩
  replace f1 := f1.trans g5
  clear g5
  go_wp2_with fail
  refine (at_any _ _ _ _ _).mono ?_
  rintro e v6 ⟨rfl, g6⟩
  replace f1 := f1.trans g6
  clear g6
  go_wp2_with fail
  go_ret
  have hr := row_alloc v6 #[.int .i64 1, .int .i64 0, .bool true, .bool false, .int .i64 0, .int .i64 2, .bool false, .int .u16 0, .int .i64 2, .int .i64 5, .bool true, .bool true, .int .i64 3, .int .i64 7, .bool false, .int .u16 0, .int .i64 2, .int .i64 3, .bool true, .bool true, .int .i64 1, .int .i64 4, .bool false, .int .u16 0, .int .i64 4, .int .i64 0, .bool true, .bool false, .int .i64 0, .int .i64 6, .bool false, .int .u16 0, .int .i64 2, .int .i64 6, .bool true, .bool true, .int .i64 1, .int .i64 5, .bool false, .int .u16 0, .int .i64 5, .int .i64 9, .bool true, .bool true, .int .i64 1, .int .i64 5, .bool false, .int .u16 0] 47
  refine ⟨_, _, rfl, f1.alloc _, fun k hk => ?_⟩
  have hk6 : k = 0 ∨ k = 1 ∨ k = 2 ∨ k = 3 ∨ k = 4 ∨ k = 5 := by omega
  rcases hk6 with rfl | rfl | rfl | rfl | rfl | rfl
  · exact ⟨_, _, rfl, hr.cell 0, hr.cell 1, hr.cell 2, hr.cell 3, hr.cell 4, hr.cell 5, hr.cell 6, hr.cell 7, by decide⟩
  · exact ⟨_, _, rfl, hr.cell 8, hr.cell 9, hr.cell 10, hr.cell 11, hr.cell 12, hr.cell 13, hr.cell 14, hr.cell 15, by decide⟩
  · exact ⟨_, _, rfl, hr.cell 16, hr.cell 17, hr.cell 18, hr.cell 19, hr.cell 20, hr.cell 21, hr.cell 22, hr.cell 23, by decide⟩
  · exact ⟨_, _, rfl, hr.cell 24, hr.cell 25, hr.cell 26, hr.cell 27, hr.cell 28, hr.cell 29, hr.cell 30, hr.cell 31, by decide⟩
  · exact ⟨_, _, rfl, hr.cell 32, hr.cell 33, hr.cell 34, hr.cell 35, hr.cell 36, hr.cell 37, hr.cell 38, hr.cell 39, by decide⟩
  · exact ⟨_, _, rfl, hr.cell 40, hr.cell 41, hr.cell 42, hr.cell 43, hr.cell 44, hr.cell 45, hr.cell 46, hr.cell 47, by decide⟩

theorem res_ext {x y : Res} (h1 : x.fr = y.fr) (h2 : x.ri = y.ri) (h3 : x.ft.k = y.ft.k) (h4 : x.ft.s = y.ft.s) (h5 : x.ft.l = y.ft.l) (h6 : x.ft.wk = y.ft.wk) (h7 : x.ft.p = y.ft.p) : x = y := by
  obtain ⟨a, b, c, d, e, f, g⟩ := x
  obtain ⟨a', b', c', d', e', f', g'⟩ := y
  simp only at h1 h2 h3 h4 h5 h6 h7
  subst h1 h2 h3 h4 h5 h6 h7
  rfl

theorem ex_a : single (laidB exP 6) 16 1 5 = ⟨7, 3, ⟨0, 0, 0, false, 0⟩⟩ := by
  have e1 : (single (laidB exP 6) 16 1 5).fr = 7 := by decide +kernel
  have e2 : (single (laidB exP 6) 16 1 5).ri = 3 := by decide +kernel
  have e3 : (single (laidB exP 6) 16 1 5).ft.k = 0 := by decide +kernel
  have e4 : (single (laidB exP 6) 16 1 5).ft.s = 0 := by decide +kernel
  have e5 : (single (laidB exP 6) 16 1 5).ft.l = 0 := by decide +kernel
  have e6 : (single (laidB exP 6) 16 1 5).ft.wk = false := by decide +kernel
  have e7 : (single (laidB exP 6) 16 1 5).ft.p = 0 := by decide +kernel
  exact res_ext e1 e2 e3 e4 e5 e6 e7

theorem ex_b : single (laidB exP 6) 16 1 40 = ⟨0, 0, ⟨1, 2, 0, false, 40⟩⟩ := by
  have e1 : (single (laidB exP 6) 16 1 40).fr = 0 := by decide +kernel
  have e2 : (single (laidB exP 6) 16 1 40).ri = 0 := by decide +kernel
  have e3 : (single (laidB exP 6) 16 1 40).ft.k = 1 := by decide +kernel
  have e4 : (single (laidB exP 6) 16 1 40).ft.s = 2 := by decide +kernel
  have e5 : (single (laidB exP 6) 16 1 40).ft.l = 0 := by decide +kernel
  have e6 : (single (laidB exP 6) 16 1 40).ft.wk = false := by decide +kernel
  have e7 : (single (laidB exP 6) 16 1 40).ft.p = 40 := by decide +kernel
  exact res_ext e1 e2 e3 e4 e5 e6 e7

theorem ex_c : nested (laidB exP 6) 16 3 1 9 1 = ⟨7, 1, ⟨0, 0, 0, false, 0⟩⟩ := by
  have e1 : (nested (laidB exP 6) 16 3 1 9 1).fr = 7 := by decide +kernel
  have e2 : (nested (laidB exP 6) 16 3 1 9 1).ri = 1 := by decide +kernel
  have e3 : (nested (laidB exP 6) 16 3 1 9 1).ft.k = 0 := by decide +kernel
  have e4 : (nested (laidB exP 6) 16 3 1 9 1).ft.s = 0 := by decide +kernel
  have e5 : (nested (laidB exP 6) 16 3 1 9 1).ft.l = 0 := by decide +kernel
  have e6 : (nested (laidB exP 6) 16 3 1 9 1).ft.wk = false := by decide +kernel
  have e7 : (nested (laidB exP 6) 16 3 1 9 1).ft.p = 0 := by decide +kernel
  exact res_ext e1 e2 e3 e4 e5 e6 e7

theorem ex_d : nested (laidB exP 6) 16 3 1 9 2 = ⟨0, 0, ⟨2, 1, 1, false, 9⟩⟩ := by
  have e1 : (nested (laidB exP 6) 16 3 1 9 2).fr = 0 := by decide +kernel
  have e2 : (nested (laidB exP 6) 16 3 1 9 2).ri = 0 := by decide +kernel
  have e3 : (nested (laidB exP 6) 16 3 1 9 2).ft.k = 2 := by decide +kernel
  have e4 : (nested (laidB exP 6) 16 3 1 9 2).ft.s = 1 := by decide +kernel
  have e5 : (nested (laidB exP 6) 16 3 1 9 2).ft.l = 1 := by decide +kernel
  have e6 : (nested (laidB exP 6) 16 3 1 9 2).ft.wk = false := by decide +kernel
  have e7 : (nested (laidB exP 6) 16 3 1 9 2).ft.p = 9 := by decide +kernel
  exact res_ext e1 e2 e3 e4 e5 e6 e7

theorem ex_e : nested (laidB exP 6) 16 8 1 9 1 = ⟨0, 0, ⟨1, 2, 1, true, 8⟩⟩ := by
  have e1 : (nested (laidB exP 6) 16 8 1 9 1).fr = 0 := by decide +kernel
  have e2 : (nested (laidB exP 6) 16 8 1 9 1).ri = 0 := by decide +kernel
  have e3 : (nested (laidB exP 6) 16 8 1 9 1).ft.k = 1 := by decide +kernel
  have e4 : (nested (laidB exP 6) 16 8 1 9 1).ft.s = 2 := by decide +kernel
  have e5 : (nested (laidB exP 6) 16 8 1 9 1).ft.l = 1 := by decide +kernel
  have e6 : (nested (laidB exP 6) 16 8 1 9 1).ft.wk = true := by decide +kernel
  have e7 : (nested (laidB exP 6) 16 8 1 9 1).ft.p = 8 := by decide +kernel
  exact res_ext e1 e2 e3 e4 e5 e6 e7

set_option maxHeartbeats 4000000 in
set_option maxRecDepth 100000 in
theorem awake_any (w : World) : Calls Try.prog 5 #[] w fun e w' => e = .returned (.bool true) ∧ Fr none' w w' := by
  have f1 := Fr.refl none' w
  have heq := eq_fault
  go_enter Try.func5, Try.ntmps5
  go_wp2_with fail
  refine (example_any _).mono ?_
  rintro e v0 ⟨a0, cap, rfl, g0, hP⟩
  replace f1 := f1.trans g0
  clear g0
  go_wp2_with fail
  refine (laid_any _ _ _ _ exP (by decide) hP).mono ?_
  rintro e v00 ⟨pm, bm, pr, br, rfl, g0, TW⟩
  replace f1 := f1.trans g0
  have h : IsRam v00 pm bm 16 (laidB exP 6) := TW.ram
  clear g0 TW hP
  go_wp2_with fail
  refine (single_any _ _ _ _ _ _ _ h).mono ?_
  rintro e v1 ⟨rfl, g1⟩
  rw [ex_a]
  replace h := h.keep g1 (fun h => h) (fun h => h)
  replace f1 := f1.trans g1
  clear g1
  have r5 := row_alloc v1 #[.int .i64 0, .int .i64 0, .int .i64 0, .bool false, .int .i64 0] 51
  replace h := h.alloc (.cells #[.int .i64 0, .int .i64 0, .int .i64 0, .bool false, .int .i64 0] 51)
  replace f1 := f1.alloc (.cells #[.int .i64 0, .int .i64 0, .int .i64 0, .bool false, .int .i64 0] 51)
  go_wp2_with fail
  refine (single_any _ _ _ _ _ _ _ h).mono ?_
  rintro e v2 ⟨rfl, g2⟩
  rw [ex_b]
  replace r5 := r5.keep g2 (fun h => h)
  replace h := h.keep g2 (fun h => h) (fun h => h)
  replace f1 := f1.trans g2
  clear g2
  have r8 := row_alloc v2 #[.int .i64 1, .int .i64 2, .int .i64 0, .bool false, .int .i64 40] 51
  replace r5 := r5.alloc (.cells #[.int .i64 1, .int .i64 2, .int .i64 0, .bool false, .int .i64 40] 51)
  replace h := h.alloc (.cells #[.int .i64 1, .int .i64 2, .int .i64 0, .bool false, .int .i64 40] 51)
  replace f1 := f1.alloc (.cells #[.int .i64 1, .int .i64 2, .int .i64 0, .bool false, .int .i64 40] 51)
  go_wp2_with fail
  refine (nested_any _ _ _ _ _ _ _ _ _ _ _ h).mono ?_
  rintro e v3 ⟨rfl, g3⟩
  rw [ex_c]
  replace r5 := r5.keep g3 (fun h => h)
  replace r8 := r8.keep g3 (fun h => h)
  replace h := h.keep g3 (fun h => h) (fun h => h)
  replace f1 := f1.trans g3
  clear g3
  have r11 := row_alloc v3 #[.int .i64 0, .int .i64 0, .int .i64 0, .bool false, .int .i64 0] 51
  replace r5 := r5.alloc (.cells #[.int .i64 0, .int .i64 0, .int .i64 0, .bool false, .int .i64 0] 51)
  replace r8 := r8.alloc (.cells #[.int .i64 0, .int .i64 0, .int .i64 0, .bool false, .int .i64 0] 51)
  replace h := h.alloc (.cells #[.int .i64 0, .int .i64 0, .int .i64 0, .bool false, .int .i64 0] 51)
  replace f1 := f1.alloc (.cells #[.int .i64 0, .int .i64 0, .int .i64 0, .bool false, .int .i64 0] 51)
  go_wp2_with fail
  refine (nested_any _ _ _ _ _ _ _ _ _ _ _ h).mono ?_
  rintro e v4 ⟨rfl, g4⟩
  rw [ex_d]
  replace r5 := r5.keep g4 (fun h => h)
  replace r8 := r8.keep g4 (fun h => h)
  replace r11 := r11.keep g4 (fun h => h)
  replace h := h.keep g4 (fun h => h) (fun h => h)
  replace f1 := f1.trans g4
  clear g4
  have r14 := row_alloc v4 #[.int .i64 2, .int .i64 1, .int .i64 1, .bool false, .int .i64 9] 51
  replace r5 := r5.alloc (.cells #[.int .i64 2, .int .i64 1, .int .i64 1, .bool false, .int .i64 9] 51)
  replace r8 := r8.alloc (.cells #[.int .i64 2, .int .i64 1, .int .i64 1, .bool false, .int .i64 9] 51)
  replace r11 := r11.alloc (.cells #[.int .i64 2, .int .i64 1, .int .i64 1, .bool false, .int .i64 9] 51)
  replace h := h.alloc (.cells #[.int .i64 2, .int .i64 1, .int .i64 1, .bool false, .int .i64 9] 51)
  replace f1 := f1.alloc (.cells #[.int .i64 2, .int .i64 1, .int .i64 1, .bool false, .int .i64 9] 51)
  go_wp2_with fail
  refine (nested_any _ _ _ _ _ _ _ _ _ _ _ h).mono ?_
  rintro e v5 ⟨rfl, g5⟩
  rw [ex_e]
  replace r5 := r5.keep g5 (fun h => h)
  replace r8 := r8.keep g5 (fun h => h)
  replace r11 := r11.keep g5 (fun h => h)
  replace r14 := r14.keep g5 (fun h => h)
  replace h := h.keep g5 (fun h => h) (fun h => h)
  replace f1 := f1.trans g5
  clear g5
  have r17 := row_alloc v5 #[.int .i64 1, .int .i64 2, .int .i64 1, .bool true, .int .i64 8] 51
  replace r5 := r5.alloc (.cells #[.int .i64 1, .int .i64 2, .int .i64 1, .bool true, .int .i64 8] 51)
  replace r8 := r8.alloc (.cells #[.int .i64 1, .int .i64 2, .int .i64 1, .bool true, .int .i64 8] 51)
  replace r11 := r11.alloc (.cells #[.int .i64 1, .int .i64 2, .int .i64 1, .bool true, .int .i64 8] 51)
  replace r14 := r14.alloc (.cells #[.int .i64 1, .int .i64 2, .int .i64 1, .bool true, .int .i64 8] 51)
  replace h := h.alloc (.cells #[.int .i64 1, .int .i64 2, .int .i64 1, .bool true, .int .i64 8] 51)
  replace f1 := f1.alloc (.cells #[.int .i64 1, .int .i64 2, .int .i64 1, .bool true, .int .i64 8] 51)
  obtain ⟨c0x0, c0x1, c0x2, c0x3, c0x4⟩ := cells5 r5
  obtain ⟨c1x0, c1x1, c1x2, c1x3, c1x4⟩ := cells5 r8
  obtain ⟨c2x0, c2x1, c2x2, c2x3, c2x4⟩ := cells5 r11
  obtain ⟨c3x0, c3x1, c3x2, c3x3, c3x4⟩ := cells5 r14
  obtain ⟨c4x0, c4x1, c4x2, c4x3, c4x4⟩ := cells5 r17
  go_wp2_with fail
  go_ret
  exact ⟨rfl, f1⟩

end Go.Proofs.Ytknpjfbjalboeaa
