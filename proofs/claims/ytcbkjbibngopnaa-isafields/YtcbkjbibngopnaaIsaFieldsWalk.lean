/-
  The walk of the law IsaFields: for every input the law returns true and nothing old turns.
-/
import Derived.Test.YtcbkjbibngopnaaIsaFieldsA
namespace Go.Proofs.Ytcbkjbibngopnaa
open Go.RowKit

set_option maxHeartbeats 3200000 in
set_option maxRecDepth 100000 in
theorem fields_5_A (o a b c i n : Int) (w : World) (h : rightI o a b c i = true) (hk : kf o = 5) :
    Calls Try.prog 7 #[.agg #[.int .i64 o, .int .i64 a, .int .i64 b, .int .i64 c, .int .i64 i], .int .i64 0, .int .i64 n] w fun e w' => e = .returned (.bool true) ∧ Fr none' w w' := by
  have f0 := (Fr.refl none' w).alloc (.cells (ibox o a b c i) 23)
  have r0 := row_alloc w (ibox o a b c i) 23
  unfold ibox at f0
  have A1 := right_any o a b c i
  have A2 := kind_any o
  have A3 := right_any o n b c i
  rw [h] at A1
  rw [hk, show fs 5 = ⟨#[98]⟩ from rfl] at A2
  have hz := right_A h n
  rw [hk, show hA 5 = false from rfl] at hz
  have HZ : Hid (rightI o n b c i = fld false n 15) := hz
  generalize rightI o n b c i = z at *
  clear h hk hz
  go_enter Try.func7, Try.ntmps7
  go_wp2_with fail
  refine (awake_any _).mono ?_
  rintro e x1 ⟨rfl, f1⟩
  replace r0 := r0.keep f1 (fun h => h)
  replace f0 := f0.trans f1
  clear f1
  obtain ⟨r0c0, r0c1, r0c2, r0c3, r0c4⟩ := ibox_cells r0
  go_wp2_with fail
  refine (A1 _).mono ?_
  rintro e x2 ⟨rfl, f1⟩
  replace r0 := r0.keep f1 (fun h => h)
  replace f0 := f0.trans f1
  clear f1
  clear r0c0 r0c1 r0c2 r0c3 r0c4
  obtain ⟨r0c0, r0c1, r0c2, r0c3, r0c4⟩ := ibox_cells r0
  go_wp2_with fail
  refine (A2 _).mono ?_
  rintro e x3 ⟨rfl, f1⟩
  replace r0 := r0.keep f1 (fun h => h)
  replace f0 := f0.trans f1
  clear f1
  clear r0c0 r0c1 r0c2 r0c3 r0c4
  obtain ⟨r0c0, r0c1, r0c2, r0c3, r0c4⟩ := ibox_cells r0
  replace f0 := f0.alloc (.cells (ibox o n b c i) 23)
  unfold ibox at f0
  go_wp2_with fail
  refine wp_loop_rounds 2 ?_
  rw [rounds_succ]; go_wp2_with fail
  rw [rounds_succ]; go_wp2_with fail
  refine (A3 _).mono ?_
  rintro e y1 ⟨rfl, f1⟩
  replace f0 := f0.trans f1
  clear f1 A1 A2 A3
  go_wp2_with fail
  all_goals go_ret
  all_goals refine ⟨ret_bool ?_, f0⟩
  all_goals (rw [HZ.out]; simp_all [fld])

set_option maxHeartbeats 3200000 in
set_option maxRecDepth 100000 in
theorem fields_5_B (o a b c i n : Int) (w : World) (h : rightI o a b c i = true) (hk : kf o = 5) :
    Calls Try.prog 7 #[.agg #[.int .i64 o, .int .i64 a, .int .i64 b, .int .i64 c, .int .i64 i], .int .i64 1, .int .i64 n] w fun e w' => e = .returned (.bool true) ∧ Fr none' w w' := by
  have f0 := (Fr.refl none' w).alloc (.cells (ibox o a b c i) 23)
  have r0 := row_alloc w (ibox o a b c i) 23
  unfold ibox at f0
  have A1 := right_any o a b c i
  have A2 := kind_any o
  have A3 := right_any o a n c i
  rw [h] at A1
  rw [hk, show fs 5 = ⟨#[98]⟩ from rfl] at A2
  have hz := right_B h n
  rw [hk, show hB 5 = true from rfl] at hz
  have HZ : Hid (rightI o a n c i = fld true n 15) := hz
  generalize rightI o a n c i = z at *
  clear h hk hz
  go_enter Try.func7, Try.ntmps7
  go_wp2_with fail
  refine (awake_any _).mono ?_
  rintro e x1 ⟨rfl, f1⟩
  replace r0 := r0.keep f1 (fun h => h)
  replace f0 := f0.trans f1
  clear f1
  obtain ⟨r0c0, r0c1, r0c2, r0c3, r0c4⟩ := ibox_cells r0
  go_wp2_with fail
  refine (A1 _).mono ?_
  rintro e x2 ⟨rfl, f1⟩
  replace r0 := r0.keep f1 (fun h => h)
  replace f0 := f0.trans f1
  clear f1
  clear r0c0 r0c1 r0c2 r0c3 r0c4
  obtain ⟨r0c0, r0c1, r0c2, r0c3, r0c4⟩ := ibox_cells r0
  go_wp2_with fail
  refine (A2 _).mono ?_
  rintro e x3 ⟨rfl, f1⟩
  replace r0 := r0.keep f1 (fun h => h)
  replace f0 := f0.trans f1
  clear f1
  clear r0c0 r0c1 r0c2 r0c3 r0c4
  obtain ⟨r0c0, r0c1, r0c2, r0c3, r0c4⟩ := ibox_cells r0
  replace f0 := f0.alloc (.cells (ibox o a n c i) 23)
  unfold ibox at f0
  go_wp2_with fail
  refine wp_loop_rounds 2 ?_
  rw [rounds_succ]; go_wp2_with fail
  rw [rounds_succ]; go_wp2_with fail
  refine (A3 _).mono ?_
  rintro e y1 ⟨rfl, f1⟩
  replace f0 := f0.trans f1
  clear f1 A1 A2 A3
  go_wp2_with fail
  all_goals go_ret
  all_goals refine ⟨ret_bool ?_, f0⟩
  all_goals (rw [HZ.out]; simp_all [fld])

set_option maxHeartbeats 3200000 in
set_option maxRecDepth 100000 in
theorem fields_5_C (o a b c i n : Int) (w : World) (h : rightI o a b c i = true) (hk : kf o = 5) :
    Calls Try.prog 7 #[.agg #[.int .i64 o, .int .i64 a, .int .i64 b, .int .i64 c, .int .i64 i], .int .i64 2, .int .i64 n] w fun e w' => e = .returned (.bool true) ∧ Fr none' w w' := by
  have f0 := (Fr.refl none' w).alloc (.cells (ibox o a b c i) 23)
  have r0 := row_alloc w (ibox o a b c i) 23
  unfold ibox at f0
  have A1 := right_any o a b c i
  have A2 := kind_any o
  have A3 := right_any o a b n i
  rw [h] at A1
  rw [hk, show fs 5 = ⟨#[98]⟩ from rfl] at A2
  have hz := right_C h n
  rw [hk, show hC 5 = false from rfl] at hz
  have HZ : Hid (rightI o a b n i = fld false n 15) := hz
  generalize rightI o a b n i = z at *
  clear h hk hz
  go_enter Try.func7, Try.ntmps7
  go_wp2_with fail
  refine (awake_any _).mono ?_
  rintro e x1 ⟨rfl, f1⟩
  replace r0 := r0.keep f1 (fun h => h)
  replace f0 := f0.trans f1
  clear f1
  obtain ⟨r0c0, r0c1, r0c2, r0c3, r0c4⟩ := ibox_cells r0
  go_wp2_with fail
  refine (A1 _).mono ?_
  rintro e x2 ⟨rfl, f1⟩
  replace r0 := r0.keep f1 (fun h => h)
  replace f0 := f0.trans f1
  clear f1
  clear r0c0 r0c1 r0c2 r0c3 r0c4
  obtain ⟨r0c0, r0c1, r0c2, r0c3, r0c4⟩ := ibox_cells r0
  go_wp2_with fail
  refine (A2 _).mono ?_
  rintro e x3 ⟨rfl, f1⟩
  replace r0 := r0.keep f1 (fun h => h)
  replace f0 := f0.trans f1
  clear f1
  clear r0c0 r0c1 r0c2 r0c3 r0c4
  obtain ⟨r0c0, r0c1, r0c2, r0c3, r0c4⟩ := ibox_cells r0
  replace f0 := f0.alloc (.cells (ibox o a b n i) 23)
  unfold ibox at f0
  go_wp2_with fail
  refine wp_loop_rounds 2 ?_
  rw [rounds_succ]; go_wp2_with fail
  rw [rounds_succ]; go_wp2_with fail
  refine (A3 _).mono ?_
  rintro e y1 ⟨rfl, f1⟩
  replace f0 := f0.trans f1
  clear f1 A1 A2 A3
  go_wp2_with fail
  all_goals go_ret
  all_goals refine ⟨ret_bool ?_, f0⟩
  all_goals (rw [HZ.out]; simp_all [fld])

set_option maxHeartbeats 3200000 in
set_option maxRecDepth 100000 in
theorem fields_5_I (o a b c i fd n : Int) (w : World) (h : rightI o a b c i = true) (hk : kf o = 5) (n0 : (fd == 0) = false) (n1 : (fd == 1) = false) (n2 : (fd == 2) = false) :
    Calls Try.prog 7 #[.agg #[.int .i64 o, .int .i64 a, .int .i64 b, .int .i64 c, .int .i64 i], .int .i64 fd, .int .i64 n] w fun e w' => e = .returned (.bool true) ∧ Fr none' w w' := by
  have f0 := (Fr.refl none' w).alloc (.cells (ibox o a b c i) 23)
  have r0 := row_alloc w (ibox o a b c i) 23
  unfold ibox at f0
  have A1 := right_any o a b c i
  have A2 := kind_any o
  have A3 := right_any o a b c n
  rw [h] at A1
  rw [hk, show fs 5 = ⟨#[98]⟩ from rfl] at A2
  have hz := right_I h n
  rw [hk, show hI 5 = false from rfl] at hz
  have HZ : Hid (rightI o a b c n = fld false n 65535) := hz
  generalize rightI o a b c n = z at *
  clear h hk hz
  go_enter Try.func7, Try.ntmps7
  go_wp2_with fail
  refine (awake_any _).mono ?_
  rintro e x1 ⟨rfl, f1⟩
  replace r0 := r0.keep f1 (fun h => h)
  replace f0 := f0.trans f1
  clear f1
  obtain ⟨r0c0, r0c1, r0c2, r0c3, r0c4⟩ := ibox_cells r0
  go_wp2_with fail
  refine (A1 _).mono ?_
  rintro e x2 ⟨rfl, f1⟩
  replace r0 := r0.keep f1 (fun h => h)
  replace f0 := f0.trans f1
  clear f1
  clear r0c0 r0c1 r0c2 r0c3 r0c4
  obtain ⟨r0c0, r0c1, r0c2, r0c3, r0c4⟩ := ibox_cells r0
  go_wp2_with fail
  refine (A2 _).mono ?_
  rintro e x3 ⟨rfl, f1⟩
  replace r0 := r0.keep f1 (fun h => h)
  replace f0 := f0.trans f1
  clear f1
  clear r0c0 r0c1 r0c2 r0c3 r0c4
  obtain ⟨r0c0, r0c1, r0c2, r0c3, r0c4⟩ := ibox_cells r0
  replace f0 := f0.alloc (.cells (ibox o a b c n) 23)
  unfold ibox at f0
  go_wp2_with fail
  refine wp_loop_rounds 2 ?_
  rw [rounds_succ]; go_wp2_with fail
  rw [rounds_succ]; go_wp2_with fail
  refine (A3 _).mono ?_
  rintro e y1 ⟨rfl, f1⟩
  replace f0 := f0.trans f1
  clear f1 A1 A2 A3
  go_wp2_with fail
  all_goals go_ret
  all_goals refine ⟨ret_bool ?_, f0⟩
  all_goals (rw [HZ.out]; simp_all [fld])

set_option maxHeartbeats 3200000 in
set_option maxRecDepth 100000 in
theorem fields_6_A (o a b c i n : Int) (w : World) (h : rightI o a b c i = true) (hk : kf o = 6) :
    Calls Try.prog 7 #[.agg #[.int .i64 o, .int .i64 a, .int .i64 b, .int .i64 c, .int .i64 i], .int .i64 0, .int .i64 n] w fun e w' => e = .returned (.bool true) ∧ Fr none' w w' := by
  have f0 := (Fr.refl none' w).alloc (.cells (ibox o a b c i) 23)
  have r0 := row_alloc w (ibox o a b c i) 23
  unfold ibox at f0
  have A1 := right_any o a b c i
  have A2 := kind_any o
  have A3 := right_any o n b c i
  rw [h] at A1
  rw [hk, show fs 6 = ⟨#[98, 105]⟩ from rfl] at A2
  have hz := right_A h n
  rw [hk, show hA 6 = false from rfl] at hz
  have HZ : Hid (rightI o n b c i = fld false n 15) := hz
  generalize rightI o n b c i = z at *
  clear h hk hz
  go_enter Try.func7, Try.ntmps7
  go_wp2_with fail
  refine (awake_any _).mono ?_
  rintro e x1 ⟨rfl, f1⟩
  replace r0 := r0.keep f1 (fun h => h)
  replace f0 := f0.trans f1
  clear f1
  obtain ⟨r0c0, r0c1, r0c2, r0c3, r0c4⟩ := ibox_cells r0
  go_wp2_with fail
  refine (A1 _).mono ?_
  rintro e x2 ⟨rfl, f1⟩
  replace r0 := r0.keep f1 (fun h => h)
  replace f0 := f0.trans f1
  clear f1
  clear r0c0 r0c1 r0c2 r0c3 r0c4
  obtain ⟨r0c0, r0c1, r0c2, r0c3, r0c4⟩ := ibox_cells r0
  go_wp2_with fail
  refine (A2 _).mono ?_
  rintro e x3 ⟨rfl, f1⟩
  replace r0 := r0.keep f1 (fun h => h)
  replace f0 := f0.trans f1
  clear f1
  clear r0c0 r0c1 r0c2 r0c3 r0c4
  obtain ⟨r0c0, r0c1, r0c2, r0c3, r0c4⟩ := ibox_cells r0
  replace f0 := f0.alloc (.cells (ibox o n b c i) 23)
  unfold ibox at f0
  go_wp2_with fail
  refine wp_loop_rounds 3 ?_
  rw [rounds_succ]; go_wp2_with fail
  rw [rounds_succ]; go_wp2_with fail
  rw [rounds_succ]; go_wp2_with fail
  refine (A3 _).mono ?_
  rintro e y1 ⟨rfl, f1⟩
  replace f0 := f0.trans f1
  clear f1 A1 A2 A3
  go_wp2_with fail
  all_goals go_ret
  all_goals refine ⟨ret_bool ?_, f0⟩
  all_goals (rw [HZ.out]; simp_all [fld])

set_option maxHeartbeats 3200000 in
set_option maxRecDepth 100000 in
theorem fields_6_B (o a b c i n : Int) (w : World) (h : rightI o a b c i = true) (hk : kf o = 6) :
    Calls Try.prog 7 #[.agg #[.int .i64 o, .int .i64 a, .int .i64 b, .int .i64 c, .int .i64 i], .int .i64 1, .int .i64 n] w fun e w' => e = .returned (.bool true) ∧ Fr none' w w' := by
  have f0 := (Fr.refl none' w).alloc (.cells (ibox o a b c i) 23)
  have r0 := row_alloc w (ibox o a b c i) 23
  unfold ibox at f0
  have A1 := right_any o a b c i
  have A2 := kind_any o
  have A3 := right_any o a n c i
  rw [h] at A1
  rw [hk, show fs 6 = ⟨#[98, 105]⟩ from rfl] at A2
  have hz := right_B h n
  rw [hk, show hB 6 = true from rfl] at hz
  have HZ : Hid (rightI o a n c i = fld true n 15) := hz
  generalize rightI o a n c i = z at *
  clear h hk hz
  go_enter Try.func7, Try.ntmps7
  go_wp2_with fail
  refine (awake_any _).mono ?_
  rintro e x1 ⟨rfl, f1⟩
  replace r0 := r0.keep f1 (fun h => h)
  replace f0 := f0.trans f1
  clear f1
  obtain ⟨r0c0, r0c1, r0c2, r0c3, r0c4⟩ := ibox_cells r0
  go_wp2_with fail
  refine (A1 _).mono ?_
  rintro e x2 ⟨rfl, f1⟩
  replace r0 := r0.keep f1 (fun h => h)
  replace f0 := f0.trans f1
  clear f1
  clear r0c0 r0c1 r0c2 r0c3 r0c4
  obtain ⟨r0c0, r0c1, r0c2, r0c3, r0c4⟩ := ibox_cells r0
  go_wp2_with fail
  refine (A2 _).mono ?_
  rintro e x3 ⟨rfl, f1⟩
  replace r0 := r0.keep f1 (fun h => h)
  replace f0 := f0.trans f1
  clear f1
  clear r0c0 r0c1 r0c2 r0c3 r0c4
  obtain ⟨r0c0, r0c1, r0c2, r0c3, r0c4⟩ := ibox_cells r0
  replace f0 := f0.alloc (.cells (ibox o a n c i) 23)
  unfold ibox at f0
  go_wp2_with fail
  refine wp_loop_rounds 3 ?_
  rw [rounds_succ]; go_wp2_with fail
  rw [rounds_succ]; go_wp2_with fail
  rw [rounds_succ]; go_wp2_with fail
  refine (A3 _).mono ?_
  rintro e y1 ⟨rfl, f1⟩
  replace f0 := f0.trans f1
  clear f1 A1 A2 A3
  go_wp2_with fail
  all_goals go_ret
  all_goals refine ⟨ret_bool ?_, f0⟩
  all_goals (rw [HZ.out]; simp_all [fld])

set_option maxHeartbeats 3200000 in
set_option maxRecDepth 100000 in
theorem fields_6_C (o a b c i n : Int) (w : World) (h : rightI o a b c i = true) (hk : kf o = 6) :
    Calls Try.prog 7 #[.agg #[.int .i64 o, .int .i64 a, .int .i64 b, .int .i64 c, .int .i64 i], .int .i64 2, .int .i64 n] w fun e w' => e = .returned (.bool true) ∧ Fr none' w w' := by
  have f0 := (Fr.refl none' w).alloc (.cells (ibox o a b c i) 23)
  have r0 := row_alloc w (ibox o a b c i) 23
  unfold ibox at f0
  have A1 := right_any o a b c i
  have A2 := kind_any o
  have A3 := right_any o a b n i
  rw [h] at A1
  rw [hk, show fs 6 = ⟨#[98, 105]⟩ from rfl] at A2
  have hz := right_C h n
  rw [hk, show hC 6 = false from rfl] at hz
  have HZ : Hid (rightI o a b n i = fld false n 15) := hz
  generalize rightI o a b n i = z at *
  clear h hk hz
  go_enter Try.func7, Try.ntmps7
  go_wp2_with fail
  refine (awake_any _).mono ?_
  rintro e x1 ⟨rfl, f1⟩
  replace r0 := r0.keep f1 (fun h => h)
  replace f0 := f0.trans f1
  clear f1
  obtain ⟨r0c0, r0c1, r0c2, r0c3, r0c4⟩ := ibox_cells r0
  go_wp2_with fail
  refine (A1 _).mono ?_
  rintro e x2 ⟨rfl, f1⟩
  replace r0 := r0.keep f1 (fun h => h)
  replace f0 := f0.trans f1
  clear f1
  clear r0c0 r0c1 r0c2 r0c3 r0c4
  obtain ⟨r0c0, r0c1, r0c2, r0c3, r0c4⟩ := ibox_cells r0
  go_wp2_with fail
  refine (A2 _).mono ?_
  rintro e x3 ⟨rfl, f1⟩
  replace r0 := r0.keep f1 (fun h => h)
  replace f0 := f0.trans f1
  clear f1
  clear r0c0 r0c1 r0c2 r0c3 r0c4
  obtain ⟨r0c0, r0c1, r0c2, r0c3, r0c4⟩ := ibox_cells r0
  replace f0 := f0.alloc (.cells (ibox o a b n i) 23)
  unfold ibox at f0
  go_wp2_with fail
  refine wp_loop_rounds 3 ?_
  rw [rounds_succ]; go_wp2_with fail
  rw [rounds_succ]; go_wp2_with fail
  rw [rounds_succ]; go_wp2_with fail
  refine (A3 _).mono ?_
  rintro e y1 ⟨rfl, f1⟩
  replace f0 := f0.trans f1
  clear f1 A1 A2 A3
  go_wp2_with fail
  all_goals go_ret
  all_goals refine ⟨ret_bool ?_, f0⟩
  all_goals (rw [HZ.out]; simp_all [fld])

set_option maxHeartbeats 3200000 in
set_option maxRecDepth 100000 in
theorem fields_6_I (o a b c i fd n : Int) (w : World) (h : rightI o a b c i = true) (hk : kf o = 6) (n0 : (fd == 0) = false) (n1 : (fd == 1) = false) (n2 : (fd == 2) = false) :
    Calls Try.prog 7 #[.agg #[.int .i64 o, .int .i64 a, .int .i64 b, .int .i64 c, .int .i64 i], .int .i64 fd, .int .i64 n] w fun e w' => e = .returned (.bool true) ∧ Fr none' w w' := by
  have f0 := (Fr.refl none' w).alloc (.cells (ibox o a b c i) 23)
  have r0 := row_alloc w (ibox o a b c i) 23
  unfold ibox at f0
  have A1 := right_any o a b c i
  have A2 := kind_any o
  have A3 := right_any o a b c n
  rw [h] at A1
  rw [hk, show fs 6 = ⟨#[98, 105]⟩ from rfl] at A2
  have hz := right_I h n
  rw [hk, show hI 6 = true from rfl] at hz
  have HZ : Hid (rightI o a b c n = fld true n 65535) := hz
  generalize rightI o a b c n = z at *
  clear h hk hz
  go_enter Try.func7, Try.ntmps7
  go_wp2_with fail
  refine (awake_any _).mono ?_
  rintro e x1 ⟨rfl, f1⟩
  replace r0 := r0.keep f1 (fun h => h)
  replace f0 := f0.trans f1
  clear f1
  obtain ⟨r0c0, r0c1, r0c2, r0c3, r0c4⟩ := ibox_cells r0
  go_wp2_with fail
  refine (A1 _).mono ?_
  rintro e x2 ⟨rfl, f1⟩
  replace r0 := r0.keep f1 (fun h => h)
  replace f0 := f0.trans f1
  clear f1
  clear r0c0 r0c1 r0c2 r0c3 r0c4
  obtain ⟨r0c0, r0c1, r0c2, r0c3, r0c4⟩ := ibox_cells r0
  go_wp2_with fail
  refine (A2 _).mono ?_
  rintro e x3 ⟨rfl, f1⟩
  replace r0 := r0.keep f1 (fun h => h)
  replace f0 := f0.trans f1
  clear f1
  clear r0c0 r0c1 r0c2 r0c3 r0c4
  obtain ⟨r0c0, r0c1, r0c2, r0c3, r0c4⟩ := ibox_cells r0
  replace f0 := f0.alloc (.cells (ibox o a b c n) 23)
  unfold ibox at f0
  go_wp2_with fail
  refine wp_loop_rounds 3 ?_
  rw [rounds_succ]; go_wp2_with fail
  rw [rounds_succ]; go_wp2_with fail
  rw [rounds_succ]; go_wp2_with fail
  refine (A3 _).mono ?_
  rintro e y1 ⟨rfl, f1⟩
  replace f0 := f0.trans f1
  clear f1 A1 A2 A3
  go_wp2_with fail
  all_goals go_ret
  all_goals refine ⟨ret_bool ?_, f0⟩
  all_goals (rw [HZ.out]; simp_all [fld])

set_option maxHeartbeats 3200000 in
set_option maxRecDepth 100000 in
theorem fields_7_A (o a b c i n : Int) (w : World) (h : rightI o a b c i = true) (hk : kf o = 7) :
    Calls Try.prog 7 #[.agg #[.int .i64 o, .int .i64 a, .int .i64 b, .int .i64 c, .int .i64 i], .int .i64 0, .int .i64 n] w fun e w' => e = .returned (.bool true) ∧ Fr none' w w' := by
  have f0 := (Fr.refl none' w).alloc (.cells (ibox o a b c i) 23)
  have r0 := row_alloc w (ibox o a b c i) 23
  unfold ibox at f0
  have A1 := right_any o a b c i
  have A2 := kind_any o
  have A3 := right_any o n b c i
  rw [h] at A1
  rw [hk, show fs 7 = ⟨#[97]⟩ from rfl] at A2
  have hz := right_A h n
  rw [hk, show hA 7 = true from rfl] at hz
  have HZ : Hid (rightI o n b c i = fld true n 15) := hz
  generalize rightI o n b c i = z at *
  clear h hk hz
  go_enter Try.func7, Try.ntmps7
  go_wp2_with fail
  refine (awake_any _).mono ?_
  rintro e x1 ⟨rfl, f1⟩
  replace r0 := r0.keep f1 (fun h => h)
  replace f0 := f0.trans f1
  clear f1
  obtain ⟨r0c0, r0c1, r0c2, r0c3, r0c4⟩ := ibox_cells r0
  go_wp2_with fail
  refine (A1 _).mono ?_
  rintro e x2 ⟨rfl, f1⟩
  replace r0 := r0.keep f1 (fun h => h)
  replace f0 := f0.trans f1
  clear f1
  clear r0c0 r0c1 r0c2 r0c3 r0c4
  obtain ⟨r0c0, r0c1, r0c2, r0c3, r0c4⟩ := ibox_cells r0
  go_wp2_with fail
  refine (A2 _).mono ?_
  rintro e x3 ⟨rfl, f1⟩
  replace r0 := r0.keep f1 (fun h => h)
  replace f0 := f0.trans f1
  clear f1
  clear r0c0 r0c1 r0c2 r0c3 r0c4
  obtain ⟨r0c0, r0c1, r0c2, r0c3, r0c4⟩ := ibox_cells r0
  replace f0 := f0.alloc (.cells (ibox o n b c i) 23)
  unfold ibox at f0
  go_wp2_with fail
  refine wp_loop_rounds 2 ?_
  rw [rounds_succ]; go_wp2_with fail
  rw [rounds_succ]; go_wp2_with fail
  refine (A3 _).mono ?_
  rintro e y1 ⟨rfl, f1⟩
  replace f0 := f0.trans f1
  clear f1 A1 A2 A3
  go_wp2_with fail
  all_goals go_ret
  all_goals refine ⟨ret_bool ?_, f0⟩
  all_goals (rw [HZ.out]; simp_all [fld])

set_option maxHeartbeats 3200000 in
set_option maxRecDepth 100000 in
theorem fields_7_B (o a b c i n : Int) (w : World) (h : rightI o a b c i = true) (hk : kf o = 7) :
    Calls Try.prog 7 #[.agg #[.int .i64 o, .int .i64 a, .int .i64 b, .int .i64 c, .int .i64 i], .int .i64 1, .int .i64 n] w fun e w' => e = .returned (.bool true) ∧ Fr none' w w' := by
  have f0 := (Fr.refl none' w).alloc (.cells (ibox o a b c i) 23)
  have r0 := row_alloc w (ibox o a b c i) 23
  unfold ibox at f0
  have A1 := right_any o a b c i
  have A2 := kind_any o
  have A3 := right_any o a n c i
  rw [h] at A1
  rw [hk, show fs 7 = ⟨#[97]⟩ from rfl] at A2
  have hz := right_B h n
  rw [hk, show hB 7 = false from rfl] at hz
  have HZ : Hid (rightI o a n c i = fld false n 15) := hz
  generalize rightI o a n c i = z at *
  clear h hk hz
  go_enter Try.func7, Try.ntmps7
  go_wp2_with fail
  refine (awake_any _).mono ?_
  rintro e x1 ⟨rfl, f1⟩
  replace r0 := r0.keep f1 (fun h => h)
  replace f0 := f0.trans f1
  clear f1
  obtain ⟨r0c0, r0c1, r0c2, r0c3, r0c4⟩ := ibox_cells r0
  go_wp2_with fail
  refine (A1 _).mono ?_
  rintro e x2 ⟨rfl, f1⟩
  replace r0 := r0.keep f1 (fun h => h)
  replace f0 := f0.trans f1
  clear f1
  clear r0c0 r0c1 r0c2 r0c3 r0c4
  obtain ⟨r0c0, r0c1, r0c2, r0c3, r0c4⟩ := ibox_cells r0
  go_wp2_with fail
  refine (A2 _).mono ?_
  rintro e x3 ⟨rfl, f1⟩
  replace r0 := r0.keep f1 (fun h => h)
  replace f0 := f0.trans f1
  clear f1
  clear r0c0 r0c1 r0c2 r0c3 r0c4
  obtain ⟨r0c0, r0c1, r0c2, r0c3, r0c4⟩ := ibox_cells r0
  replace f0 := f0.alloc (.cells (ibox o a n c i) 23)
  unfold ibox at f0
  go_wp2_with fail
  refine wp_loop_rounds 2 ?_
  rw [rounds_succ]; go_wp2_with fail
  rw [rounds_succ]; go_wp2_with fail
  refine (A3 _).mono ?_
  rintro e y1 ⟨rfl, f1⟩
  replace f0 := f0.trans f1
  clear f1 A1 A2 A3
  go_wp2_with fail
  all_goals go_ret
  all_goals refine ⟨ret_bool ?_, f0⟩
  all_goals (rw [HZ.out]; simp_all [fld])

set_option maxHeartbeats 3200000 in
set_option maxRecDepth 100000 in
theorem fields_7_C (o a b c i n : Int) (w : World) (h : rightI o a b c i = true) (hk : kf o = 7) :
    Calls Try.prog 7 #[.agg #[.int .i64 o, .int .i64 a, .int .i64 b, .int .i64 c, .int .i64 i], .int .i64 2, .int .i64 n] w fun e w' => e = .returned (.bool true) ∧ Fr none' w w' := by
  have f0 := (Fr.refl none' w).alloc (.cells (ibox o a b c i) 23)
  have r0 := row_alloc w (ibox o a b c i) 23
  unfold ibox at f0
  have A1 := right_any o a b c i
  have A2 := kind_any o
  have A3 := right_any o a b n i
  rw [h] at A1
  rw [hk, show fs 7 = ⟨#[97]⟩ from rfl] at A2
  have hz := right_C h n
  rw [hk, show hC 7 = false from rfl] at hz
  have HZ : Hid (rightI o a b n i = fld false n 15) := hz
  generalize rightI o a b n i = z at *
  clear h hk hz
  go_enter Try.func7, Try.ntmps7
  go_wp2_with fail
  refine (awake_any _).mono ?_
  rintro e x1 ⟨rfl, f1⟩
  replace r0 := r0.keep f1 (fun h => h)
  replace f0 := f0.trans f1
  clear f1
  obtain ⟨r0c0, r0c1, r0c2, r0c3, r0c4⟩ := ibox_cells r0
  go_wp2_with fail
  refine (A1 _).mono ?_
  rintro e x2 ⟨rfl, f1⟩
  replace r0 := r0.keep f1 (fun h => h)
  replace f0 := f0.trans f1
  clear f1
  clear r0c0 r0c1 r0c2 r0c3 r0c4
  obtain ⟨r0c0, r0c1, r0c2, r0c3, r0c4⟩ := ibox_cells r0
  go_wp2_with fail
  refine (A2 _).mono ?_
  rintro e x3 ⟨rfl, f1⟩
  replace r0 := r0.keep f1 (fun h => h)
  replace f0 := f0.trans f1
  clear f1
  clear r0c0 r0c1 r0c2 r0c3 r0c4
  obtain ⟨r0c0, r0c1, r0c2, r0c3, r0c4⟩ := ibox_cells r0
  replace f0 := f0.alloc (.cells (ibox o a b n i) 23)
  unfold ibox at f0
  go_wp2_with fail
  refine wp_loop_rounds 2 ?_
  rw [rounds_succ]; go_wp2_with fail
  rw [rounds_succ]; go_wp2_with fail
  refine (A3 _).mono ?_
  rintro e y1 ⟨rfl, f1⟩
  replace f0 := f0.trans f1
  clear f1 A1 A2 A3
  go_wp2_with fail
  all_goals go_ret
  all_goals refine ⟨ret_bool ?_, f0⟩
  all_goals (rw [HZ.out]; simp_all [fld])

set_option maxHeartbeats 3200000 in
set_option maxRecDepth 100000 in
theorem fields_7_I (o a b c i fd n : Int) (w : World) (h : rightI o a b c i = true) (hk : kf o = 7) (n0 : (fd == 0) = false) (n1 : (fd == 1) = false) (n2 : (fd == 2) = false) :
    Calls Try.prog 7 #[.agg #[.int .i64 o, .int .i64 a, .int .i64 b, .int .i64 c, .int .i64 i], .int .i64 fd, .int .i64 n] w fun e w' => e = .returned (.bool true) ∧ Fr none' w w' := by
  have f0 := (Fr.refl none' w).alloc (.cells (ibox o a b c i) 23)
  have r0 := row_alloc w (ibox o a b c i) 23
  unfold ibox at f0
  have A1 := right_any o a b c i
  have A2 := kind_any o
  have A3 := right_any o a b c n
  rw [h] at A1
  rw [hk, show fs 7 = ⟨#[97]⟩ from rfl] at A2
  have hz := right_I h n
  rw [hk, show hI 7 = false from rfl] at hz
  have HZ : Hid (rightI o a b c n = fld false n 65535) := hz
  generalize rightI o a b c n = z at *
  clear h hk hz
  go_enter Try.func7, Try.ntmps7
  go_wp2_with fail
  refine (awake_any _).mono ?_
  rintro e x1 ⟨rfl, f1⟩
  replace r0 := r0.keep f1 (fun h => h)
  replace f0 := f0.trans f1
  clear f1
  obtain ⟨r0c0, r0c1, r0c2, r0c3, r0c4⟩ := ibox_cells r0
  go_wp2_with fail
  refine (A1 _).mono ?_
  rintro e x2 ⟨rfl, f1⟩
  replace r0 := r0.keep f1 (fun h => h)
  replace f0 := f0.trans f1
  clear f1
  clear r0c0 r0c1 r0c2 r0c3 r0c4
  obtain ⟨r0c0, r0c1, r0c2, r0c3, r0c4⟩ := ibox_cells r0
  go_wp2_with fail
  refine (A2 _).mono ?_
  rintro e x3 ⟨rfl, f1⟩
  replace r0 := r0.keep f1 (fun h => h)
  replace f0 := f0.trans f1
  clear f1
  clear r0c0 r0c1 r0c2 r0c3 r0c4
  obtain ⟨r0c0, r0c1, r0c2, r0c3, r0c4⟩ := ibox_cells r0
  replace f0 := f0.alloc (.cells (ibox o a b c n) 23)
  unfold ibox at f0
  go_wp2_with fail
  refine wp_loop_rounds 2 ?_
  rw [rounds_succ]; go_wp2_with fail
  rw [rounds_succ]; go_wp2_with fail
  refine (A3 _).mono ?_
  rintro e y1 ⟨rfl, f1⟩
  replace f0 := f0.trans f1
  clear f1 A1 A2 A3
  go_wp2_with fail
  all_goals go_ret
  all_goals refine ⟨ret_bool ?_, f0⟩
  all_goals (rw [HZ.out]; simp_all [fld])

set_option maxHeartbeats 3200000 in
set_option maxRecDepth 100000 in
theorem fields_8_A (o a b c i n : Int) (w : World) (h : rightI o a b c i = true) (hk : kf o = 8) :
    Calls Try.prog 7 #[.agg #[.int .i64 o, .int .i64 a, .int .i64 b, .int .i64 c, .int .i64 i], .int .i64 0, .int .i64 n] w fun e w' => e = .returned (.bool true) ∧ Fr none' w w' := by
  have f0 := (Fr.refl none' w).alloc (.cells (ibox o a b c i) 23)
  have r0 := row_alloc w (ibox o a b c i) 23
  unfold ibox at f0
  have A1 := right_any o a b c i
  have A2 := kind_any o
  have A3 := right_any o n b c i
  rw [h] at A1
  rw [hk, show fs 8 = ⟨#[45]⟩ from rfl] at A2
  have hz := right_A h n
  rw [hk, show hA 8 = false from rfl] at hz
  have HZ : Hid (rightI o n b c i = fld false n 15) := hz
  generalize rightI o n b c i = z at *
  clear h hk hz
  go_enter Try.func7, Try.ntmps7
  go_wp2_with fail
  refine (awake_any _).mono ?_
  rintro e x1 ⟨rfl, f1⟩
  replace r0 := r0.keep f1 (fun h => h)
  replace f0 := f0.trans f1
  clear f1
  obtain ⟨r0c0, r0c1, r0c2, r0c3, r0c4⟩ := ibox_cells r0
  go_wp2_with fail
  refine (A1 _).mono ?_
  rintro e x2 ⟨rfl, f1⟩
  replace r0 := r0.keep f1 (fun h => h)
  replace f0 := f0.trans f1
  clear f1
  clear r0c0 r0c1 r0c2 r0c3 r0c4
  obtain ⟨r0c0, r0c1, r0c2, r0c3, r0c4⟩ := ibox_cells r0
  go_wp2_with fail
  refine (A2 _).mono ?_
  rintro e x3 ⟨rfl, f1⟩
  replace r0 := r0.keep f1 (fun h => h)
  replace f0 := f0.trans f1
  clear f1
  clear r0c0 r0c1 r0c2 r0c3 r0c4
  obtain ⟨r0c0, r0c1, r0c2, r0c3, r0c4⟩ := ibox_cells r0
  replace f0 := f0.alloc (.cells (ibox o n b c i) 23)
  unfold ibox at f0
  go_wp2_with fail
  refine wp_loop_rounds 2 ?_
  rw [rounds_succ]; go_wp2_with fail
  rw [rounds_succ]; go_wp2_with fail
  refine (A3 _).mono ?_
  rintro e y1 ⟨rfl, f1⟩
  replace f0 := f0.trans f1
  clear f1 A1 A2 A3
  go_wp2_with fail
  all_goals go_ret
  all_goals refine ⟨ret_bool ?_, f0⟩
  all_goals (rw [HZ.out]; simp_all [fld])

set_option maxHeartbeats 3200000 in
set_option maxRecDepth 100000 in
theorem fields_8_B (o a b c i n : Int) (w : World) (h : rightI o a b c i = true) (hk : kf o = 8) :
    Calls Try.prog 7 #[.agg #[.int .i64 o, .int .i64 a, .int .i64 b, .int .i64 c, .int .i64 i], .int .i64 1, .int .i64 n] w fun e w' => e = .returned (.bool true) ∧ Fr none' w w' := by
  have f0 := (Fr.refl none' w).alloc (.cells (ibox o a b c i) 23)
  have r0 := row_alloc w (ibox o a b c i) 23
  unfold ibox at f0
  have A1 := right_any o a b c i
  have A2 := kind_any o
  have A3 := right_any o a n c i
  rw [h] at A1
  rw [hk, show fs 8 = ⟨#[45]⟩ from rfl] at A2
  have hz := right_B h n
  rw [hk, show hB 8 = false from rfl] at hz
  have HZ : Hid (rightI o a n c i = fld false n 15) := hz
  generalize rightI o a n c i = z at *
  clear h hk hz
  go_enter Try.func7, Try.ntmps7
  go_wp2_with fail
  refine (awake_any _).mono ?_
  rintro e x1 ⟨rfl, f1⟩
  replace r0 := r0.keep f1 (fun h => h)
  replace f0 := f0.trans f1
  clear f1
  obtain ⟨r0c0, r0c1, r0c2, r0c3, r0c4⟩ := ibox_cells r0
  go_wp2_with fail
  refine (A1 _).mono ?_
  rintro e x2 ⟨rfl, f1⟩
  replace r0 := r0.keep f1 (fun h => h)
  replace f0 := f0.trans f1
  clear f1
  clear r0c0 r0c1 r0c2 r0c3 r0c4
  obtain ⟨r0c0, r0c1, r0c2, r0c3, r0c4⟩ := ibox_cells r0
  go_wp2_with fail
  refine (A2 _).mono ?_
  rintro e x3 ⟨rfl, f1⟩
  replace r0 := r0.keep f1 (fun h => h)
  replace f0 := f0.trans f1
  clear f1
  clear r0c0 r0c1 r0c2 r0c3 r0c4
  obtain ⟨r0c0, r0c1, r0c2, r0c3, r0c4⟩ := ibox_cells r0
  replace f0 := f0.alloc (.cells (ibox o a n c i) 23)
  unfold ibox at f0
  go_wp2_with fail
  refine wp_loop_rounds 2 ?_
  rw [rounds_succ]; go_wp2_with fail
  rw [rounds_succ]; go_wp2_with fail
  refine (A3 _).mono ?_
  rintro e y1 ⟨rfl, f1⟩
  replace f0 := f0.trans f1
  clear f1 A1 A2 A3
  go_wp2_with fail
  all_goals go_ret
  all_goals refine ⟨ret_bool ?_, f0⟩
  all_goals (rw [HZ.out]; simp_all [fld])

set_option maxHeartbeats 3200000 in
set_option maxRecDepth 100000 in
theorem fields_8_C (o a b c i n : Int) (w : World) (h : rightI o a b c i = true) (hk : kf o = 8) :
    Calls Try.prog 7 #[.agg #[.int .i64 o, .int .i64 a, .int .i64 b, .int .i64 c, .int .i64 i], .int .i64 2, .int .i64 n] w fun e w' => e = .returned (.bool true) ∧ Fr none' w w' := by
  have f0 := (Fr.refl none' w).alloc (.cells (ibox o a b c i) 23)
  have r0 := row_alloc w (ibox o a b c i) 23
  unfold ibox at f0
  have A1 := right_any o a b c i
  have A2 := kind_any o
  have A3 := right_any o a b n i
  rw [h] at A1
  rw [hk, show fs 8 = ⟨#[45]⟩ from rfl] at A2
  have hz := right_C h n
  rw [hk, show hC 8 = false from rfl] at hz
  have HZ : Hid (rightI o a b n i = fld false n 15) := hz
  generalize rightI o a b n i = z at *
  clear h hk hz
  go_enter Try.func7, Try.ntmps7
  go_wp2_with fail
  refine (awake_any _).mono ?_
  rintro e x1 ⟨rfl, f1⟩
  replace r0 := r0.keep f1 (fun h => h)
  replace f0 := f0.trans f1
  clear f1
  obtain ⟨r0c0, r0c1, r0c2, r0c3, r0c4⟩ := ibox_cells r0
  go_wp2_with fail
  refine (A1 _).mono ?_
  rintro e x2 ⟨rfl, f1⟩
  replace r0 := r0.keep f1 (fun h => h)
  replace f0 := f0.trans f1
  clear f1
  clear r0c0 r0c1 r0c2 r0c3 r0c4
  obtain ⟨r0c0, r0c1, r0c2, r0c3, r0c4⟩ := ibox_cells r0
  go_wp2_with fail
  refine (A2 _).mono ?_
  rintro e x3 ⟨rfl, f1⟩
  replace r0 := r0.keep f1 (fun h => h)
  replace f0 := f0.trans f1
  clear f1
  clear r0c0 r0c1 r0c2 r0c3 r0c4
  obtain ⟨r0c0, r0c1, r0c2, r0c3, r0c4⟩ := ibox_cells r0
  replace f0 := f0.alloc (.cells (ibox o a b n i) 23)
  unfold ibox at f0
  go_wp2_with fail
  refine wp_loop_rounds 2 ?_
  rw [rounds_succ]; go_wp2_with fail
  rw [rounds_succ]; go_wp2_with fail
  refine (A3 _).mono ?_
  rintro e y1 ⟨rfl, f1⟩
  replace f0 := f0.trans f1
  clear f1 A1 A2 A3
  go_wp2_with fail
  all_goals go_ret
  all_goals refine ⟨ret_bool ?_, f0⟩
  all_goals (rw [HZ.out]; simp_all [fld])

set_option maxHeartbeats 3200000 in
set_option maxRecDepth 100000 in
theorem fields_8_I (o a b c i fd n : Int) (w : World) (h : rightI o a b c i = true) (hk : kf o = 8) (n0 : (fd == 0) = false) (n1 : (fd == 1) = false) (n2 : (fd == 2) = false) :
    Calls Try.prog 7 #[.agg #[.int .i64 o, .int .i64 a, .int .i64 b, .int .i64 c, .int .i64 i], .int .i64 fd, .int .i64 n] w fun e w' => e = .returned (.bool true) ∧ Fr none' w w' := by
  have f0 := (Fr.refl none' w).alloc (.cells (ibox o a b c i) 23)
  have r0 := row_alloc w (ibox o a b c i) 23
  unfold ibox at f0
  have A1 := right_any o a b c i
  have A2 := kind_any o
  have A3 := right_any o a b c n
  rw [h] at A1
  rw [hk, show fs 8 = ⟨#[45]⟩ from rfl] at A2
  have hz := right_I h n
  rw [hk, show hI 8 = false from rfl] at hz
  have HZ : Hid (rightI o a b c n = fld false n 65535) := hz
  generalize rightI o a b c n = z at *
  clear h hk hz
  go_enter Try.func7, Try.ntmps7
  go_wp2_with fail
  refine (awake_any _).mono ?_
  rintro e x1 ⟨rfl, f1⟩
  replace r0 := r0.keep f1 (fun h => h)
  replace f0 := f0.trans f1
  clear f1
  obtain ⟨r0c0, r0c1, r0c2, r0c3, r0c4⟩ := ibox_cells r0
  go_wp2_with fail
  refine (A1 _).mono ?_
  rintro e x2 ⟨rfl, f1⟩
  replace r0 := r0.keep f1 (fun h => h)
  replace f0 := f0.trans f1
  clear f1
  clear r0c0 r0c1 r0c2 r0c3 r0c4
  obtain ⟨r0c0, r0c1, r0c2, r0c3, r0c4⟩ := ibox_cells r0
  go_wp2_with fail
  refine (A2 _).mono ?_
  rintro e x3 ⟨rfl, f1⟩
  replace r0 := r0.keep f1 (fun h => h)
  replace f0 := f0.trans f1
  clear f1
  clear r0c0 r0c1 r0c2 r0c3 r0c4
  obtain ⟨r0c0, r0c1, r0c2, r0c3, r0c4⟩ := ibox_cells r0
  replace f0 := f0.alloc (.cells (ibox o a b c n) 23)
  unfold ibox at f0
  go_wp2_with fail
  refine wp_loop_rounds 2 ?_
  rw [rounds_succ]; go_wp2_with fail
  rw [rounds_succ]; go_wp2_with fail
  refine (A3 _).mono ?_
  rintro e y1 ⟨rfl, f1⟩
  replace f0 := f0.trans f1
  clear f1 A1 A2 A3
  go_wp2_with fail
  all_goals go_ret
  all_goals refine ⟨ret_bool ?_, f0⟩
  all_goals (rw [HZ.out]; simp_all [fld])

theorem fields_fr (o a b c i fd n : Int) (w : World) :
    Calls Try.prog 7 #[.agg #[.int .i64 o, .int .i64 a, .int .i64 b, .int .i64 c, .int .i64 i], .int .i64 fd, .int .i64 n] w fun e w' => e = .returned (.bool true) ∧ Fr none' w w' := by
  cases h : rightI o a b c i
  · exact fields_no o a b c i fd n w h
  have hk0 := (right_parts h).1
  have hk9 := kf_le o
  have hk : kf o = 1 ∨ kf o = 2 ∨ kf o = 3 ∨ kf o = 4 ∨ kf o = 5 ∨ kf o = 6 ∨ kf o = 7 ∨ kf o = 8 := by omega
  by_cases h0 : fd = 0
  · subst h0
    rcases hk with hk | hk | hk | hk | hk | hk | hk | hk
    · exact fields_1_A o a b c i n w h hk
    · exact fields_2_A o a b c i n w h hk
    · exact fields_3_A o a b c i n w h hk
    · exact fields_4_A o a b c i n w h hk
    · exact fields_5_A o a b c i n w h hk
    · exact fields_6_A o a b c i n w h hk
    · exact fields_7_A o a b c i n w h hk
    · exact fields_8_A o a b c i n w h hk
  by_cases h1 : fd = 1
  · subst h1
    rcases hk with hk | hk | hk | hk | hk | hk | hk | hk
    · exact fields_1_B o a b c i n w h hk
    · exact fields_2_B o a b c i n w h hk
    · exact fields_3_B o a b c i n w h hk
    · exact fields_4_B o a b c i n w h hk
    · exact fields_5_B o a b c i n w h hk
    · exact fields_6_B o a b c i n w h hk
    · exact fields_7_B o a b c i n w h hk
    · exact fields_8_B o a b c i n w h hk
  by_cases h2 : fd = 2
  · subst h2
    rcases hk with hk | hk | hk | hk | hk | hk | hk | hk
    · exact fields_1_C o a b c i n w h hk
    · exact fields_2_C o a b c i n w h hk
    · exact fields_3_C o a b c i n w h hk
    · exact fields_4_C o a b c i n w h hk
    · exact fields_5_C o a b c i n w h hk
    · exact fields_6_C o a b c i n w h hk
    · exact fields_7_C o a b c i n w h hk
    · exact fields_8_C o a b c i n w h hk
  rcases hk with hk | hk | hk | hk | hk | hk | hk | hk
  · exact fields_1_I o a b c i fd n w h hk (by simpa using h0) (by simpa using h1) (by simpa using h2)
  · exact fields_2_I o a b c i fd n w h hk (by simpa using h0) (by simpa using h1) (by simpa using h2)
  · exact fields_3_I o a b c i fd n w h hk (by simpa using h0) (by simpa using h1) (by simpa using h2)
  · exact fields_4_I o a b c i fd n w h hk (by simpa using h0) (by simpa using h1) (by simpa using h2)
  · exact fields_5_I o a b c i fd n w h hk (by simpa using h0) (by simpa using h1) (by simpa using h2)
  · exact fields_6_I o a b c i fd n w h hk (by simpa using h0) (by simpa using h1) (by simpa using h2)
  · exact fields_7_I o a b c i fd n w h hk (by simpa using h0) (by simpa using h1) (by simpa using h2)
  · exact fields_8_I o a b c i fd n w h hk (by simpa using h0) (by simpa using h1) (by simpa using h2)

theorem fields_any (o a b c i fd n : Int) (w : World) :
    Calls Try.prog 7 #[.agg #[.int .i64 o, .int .i64 a, .int .i64 b, .int .i64 c, .int .i64 i], .int .i64 fd, .int .i64 n] w fun e w' => e = .returned (.bool true) ∧ Below w.heap.size w w' :=
  (fields_fr o a b c i fd n w).mono fun _ _ ⟨he, hf⟩ => ⟨he, hf.below (Nat.le_refl _) (fun _ h => h.elim)⟩

end Go.Proofs.Ytcbkjbibngopnaa
