/-
  The walk of the law IsaFields, its first parts: for every input the law returns true and nothing old turns.
-/
import Derived.Test.YtcbkjbibngopnaaIsaInts
namespace Go.Proofs.Ytcbkjbibngopnaa
open Go.RowKit

theorem right_A {o a b c i : Int} (h : rightI o a b c i = true) (n : Int) : rightI o n b c i = fld (hA (kf o)) n 15 := by
  obtain ⟨h1, h2, h3, h4, h5⟩ := right_parts h
  simp [rightI, h1, h3, h4, h5]
theorem right_B {o a b c i : Int} (h : rightI o a b c i = true) (n : Int) : rightI o a n c i = fld (hB (kf o)) n 15 := by
  obtain ⟨h1, h2, h3, h4, h5⟩ := right_parts h
  simp [rightI, h1, h2, h4, h5]
theorem right_C {o a b c i : Int} (h : rightI o a b c i = true) (n : Int) : rightI o a b n i = fld (hC (kf o)) n 15 := by
  obtain ⟨h1, h2, h3, h4, h5⟩ := right_parts h
  simp [rightI, h1, h2, h3, h5]
theorem right_I {o a b c i : Int} (h : rightI o a b c i = true) (n : Int) : rightI o a b c n = fld (hI (kf o)) n 65535 := by
  obtain ⟨h1, h2, h3, h4, h5⟩ := right_parts h
  simp [rightI, h1, h2, h3, h4]

set_option maxHeartbeats 1600000 in
theorem fields_no (o a b c i fd n : Int) (w : World) (h : rightI o a b c i = false) :
    Calls Try.prog 7 #[.agg #[.int .i64 o, .int .i64 a, .int .i64 b, .int .i64 c, .int .i64 i], .int .i64 fd, .int .i64 n] w fun e w' => e = .returned (.bool true) ∧ Fr none' w w' := by
  have f0 := (Fr.refl none' w).alloc (.cells (ibox o a b c i) 23)
  have r0 := row_alloc w (ibox o a b c i) 23
  unfold ibox at f0
  have A1 := right_any o a b c i
  rw [h] at A1
  clear h
  go_enter Try.func7, Try.ntmps7
  go_wp2_with fail
  refine (awake_any _).mono ?_
  rintro e x1 ⟨rfl, f1⟩
  replace r0 := r0.keep f1 (fun h => h)
  replace f0 := f0.trans f1
  clear f1
  obtain ⟨r0c0, r0c1, r0c2, r0c3, r0c4⟩ := ibox_cells r0
  go_wp2_with fail
  refine (A1 _).mono ?_
  rintro e x2 ⟨rfl, f1⟩
  replace r0 := r0.keep f1 (fun h => h)
  replace f0 := f0.trans f1
  clear f1
  go_wp2_with fail
  go_ret
  exact ⟨rfl, f0⟩

set_option maxHeartbeats 3200000 in
set_option maxRecDepth 100000 in
theorem fields_1_A (o a b c i n : Int) (w : World) (h : rightI o a b c i = true) (hk : kf o = 1) :
    Calls Try.prog 7 #[.agg #[.int .i64 o, .int .i64 a, .int .i64 b, .int .i64 c, .int .i64 i], .int .i64 0, .int .i64 n] w fun e w' => e = .returned (.bool true) ∧ Fr none' w w' := by
  have f0 := (Fr.refl none' w).alloc (.cells (ibox o a b c i) 23)
  have r0 := row_alloc w (ibox o a b c i) 23
  unfold ibox at f0
  have A1 := right_any o a b c i
  have A2 := kind_any o
  have A3 := right_any o n b c i
  rw [h] at A1
  rw [hk, show fs 1 = ⟨#[97, 105]⟩ from rfl] at A2
  have hz := right_A h n
  rw [hk, show hA 1 = true from rfl] at hz
  have HZ : Hid (rightI o n b c i = fld true n 15) := hz
  generalize rightI o n b c i = z at *
  clear h hk hz
  go_enter Try.func7, Try.ntmps7
  go_wp2_with fail
  refine (awake_any _).mono ?_
  rintro e x1 ⟨rfl, f1⟩
  replace r0 := r0.keep f1 (fun h => h)
  replace f0 := f0.trans f1
  clear f1
  obtain ⟨r0c0, r0c1, r0c2, r0c3, r0c4⟩ := ibox_cells r0
  go_wp2_with fail
  refine (A1 _).mono ?_
  rintro e x2 ⟨rfl, f1⟩
  replace r0 := r0.keep f1 (fun h => h)
  replace f0 := f0.trans f1
  clear f1
  clear r0c0 r0c1 r0c2 r0c3 r0c4
  obtain ⟨r0c0, r0c1, r0c2, r0c3, r0c4⟩ := ibox_cells r0
  go_wp2_with fail
  refine (A2 _).mono ?_
  rintro e x3 ⟨rfl, f1⟩
  replace r0 := r0.keep f1 (fun h => h)
  replace f0 := f0.trans f1
  clear f1
  clear r0c0 r0c1 r0c2 r0c3 r0c4
  obtain ⟨r0c0, r0c1, r0c2, r0c3, r0c4⟩ := ibox_cells r0
  replace f0 := f0.alloc (.cells (ibox o n b c i) 23)
  unfold ibox at f0
  go_wp2_with fail
  refine wp_loop_rounds 3 ?_
  rw [rounds_succ]; go_wp2_with fail
  rw [rounds_succ]; go_wp2_with fail
  rw [rounds_succ]; go_wp2_with fail
  refine (A3 _).mono ?_
  rintro e y1 ⟨rfl, f1⟩
  replace f0 := f0.trans f1
  clear f1 A1 A2 A3
  go_wp2_with fail
  all_goals go_ret
  all_goals refine ⟨ret_bool ?_, f0⟩
  all_goals (rw [HZ.out]; simp_all [fld])

set_option maxHeartbeats 3200000 in
set_option maxRecDepth 100000 in
theorem fields_1_B (o a b c i n : Int) (w : World) (h : rightI o a b c i = true) (hk : kf o = 1) :
    Calls Try.prog 7 #[.agg #[.int .i64 o, .int .i64 a, .int .i64 b, .int .i64 c, .int .i64 i], .int .i64 1, .int .i64 n] w fun e w' => e = .returned (.bool true) ∧ Fr none' w w' := by
  have f0 := (Fr.refl none' w).alloc (.cells (ibox o a b c i) 23)
  have r0 := row_alloc w (ibox o a b c i) 23
  unfold ibox at f0
  have A1 := right_any o a b c i
  have A2 := kind_any o
  have A3 := right_any o a n c i
  rw [h] at A1
  rw [hk, show fs 1 = ⟨#[97, 105]⟩ from rfl] at A2
  have hz := right_B h n
  rw [hk, show hB 1 = false from rfl] at hz
  have HZ : Hid (rightI o a n c i = fld false n 15) := hz
  generalize rightI o a n c i = z at *
  clear h hk hz
  go_enter Try.func7, Try.ntmps7
  go_wp2_with fail
  refine (awake_any _).mono ?_
  rintro e x1 ⟨rfl, f1⟩
  replace r0 := r0.keep f1 (fun h => h)
  replace f0 := f0.trans f1
  clear f1
  obtain ⟨r0c0, r0c1, r0c2, r0c3, r0c4⟩ := ibox_cells r0
  go_wp2_with fail
  refine (A1 _).mono ?_
  rintro e x2 ⟨rfl, f1⟩
  replace r0 := r0.keep f1 (fun h => h)
  replace f0 := f0.trans f1
  clear f1
  clear r0c0 r0c1 r0c2 r0c3 r0c4
  obtain ⟨r0c0, r0c1, r0c2, r0c3, r0c4⟩ := ibox_cells r0
  go_wp2_with fail
  refine (A2 _).mono ?_
  rintro e x3 ⟨rfl, f1⟩
  replace r0 := r0.keep f1 (fun h => h)
  replace f0 := f0.trans f1
  clear f1
  clear r0c0 r0c1 r0c2 r0c3 r0c4
  obtain ⟨r0c0, r0c1, r0c2, r0c3, r0c4⟩ := ibox_cells r0
  replace f0 := f0.alloc (.cells (ibox o a n c i) 23)
  unfold ibox at f0
  go_wp2_with fail
  refine wp_loop_rounds 3 ?_
  rw [rounds_succ]; go_wp2_with fail
  rw [rounds_succ]; go_wp2_with fail
  rw [rounds_succ]; go_wp2_with fail
  refine (A3 _).mono ?_
  rintro e y1 ⟨rfl, f1⟩
  replace f0 := f0.trans f1
  clear f1 A1 A2 A3
  go_wp2_with fail
  all_goals go_ret
  all_goals refine ⟨ret_bool ?_, f0⟩
  all_goals (rw [HZ.out]; simp_all [fld])

set_option maxHeartbeats 3200000 in
set_option maxRecDepth 100000 in
theorem fields_1_C (o a b c i n : Int) (w : World) (h : rightI o a b c i = true) (hk : kf o = 1) :
    Calls Try.prog 7 #[.agg #[.int .i64 o, .int .i64 a, .int .i64 b, .int .i64 c, .int .i64 i], .int .i64 2, .int .i64 n] w fun e w' => e = .returned (.bool true) ∧ Fr none' w w' := by
  have f0 := (Fr.refl none' w).alloc (.cells (ibox o a b c i) 23)
  have r0 := row_alloc w (ibox o a b c i) 23
  unfold ibox at f0
  have A1 := right_any o a b c i
  have A2 := kind_any o
  have A3 := right_any o a b n i
  rw [h] at A1
  rw [hk, show fs 1 = ⟨#[97, 105]⟩ from rfl] at A2
  have hz := right_C h n
  rw [hk, show hC 1 = false from rfl] at hz
  have HZ : Hid (rightI o a b n i = fld false n 15) := hz
  generalize rightI o a b n i = z at *
  clear h hk hz
  go_enter Try.func7, Try.ntmps7
  go_wp2_with fail
  refine (awake_any _).mono ?_
  rintro e x1 ⟨rfl, f1⟩
  replace r0 := r0.keep f1 (fun h => h)
  replace f0 := f0.trans f1
  clear f1
  obtain ⟨r0c0, r0c1, r0c2, r0c3, r0c4⟩ := ibox_cells r0
  go_wp2_with fail
  refine (A1 _).mono ?_
  rintro e x2 ⟨rfl, f1⟩
  replace r0 := r0.keep f1 (fun h => h)
  replace f0 := f0.trans f1
  clear f1
  clear r0c0 r0c1 r0c2 r0c3 r0c4
  obtain ⟨r0c0, r0c1, r0c2, r0c3, r0c4⟩ := ibox_cells r0
  go_wp2_with fail
  refine (A2 _).mono ?_
  rintro e x3 ⟨rfl, f1⟩
  replace r0 := r0.keep f1 (fun h => h)
  replace f0 := f0.trans f1
  clear f1
  clear r0c0 r0c1 r0c2 r0c3 r0c4
  obtain ⟨r0c0, r0c1, r0c2, r0c3, r0c4⟩ := ibox_cells r0
  replace f0 := f0.alloc (.cells (ibox o a b n i) 23)
  unfold ibox at f0
  go_wp2_with fail
  refine wp_loop_rounds 3 ?_
  rw [rounds_succ]; go_wp2_with fail
  rw [rounds_succ]; go_wp2_with fail
  rw [rounds_succ]; go_wp2_with fail
  refine (A3 _).mono ?_
  rintro e y1 ⟨rfl, f1⟩
  replace f0 := f0.trans f1
  clear f1 A1 A2 A3
  go_wp2_with fail
  all_goals go_ret
  all_goals refine ⟨ret_bool ?_, f0⟩
  all_goals (rw [HZ.out]; simp_all [fld])

set_option maxHeartbeats 3200000 in
set_option maxRecDepth 100000 in
theorem fields_1_I (o a b c i fd n : Int) (w : World) (h : rightI o a b c i = true) (hk : kf o = 1) (n0 : (fd == 0) = false) (n1 : (fd == 1) = false) (n2 : (fd == 2) = false) :
    Calls Try.prog 7 #[.agg #[.int .i64 o, .int .i64 a, .int .i64 b, .int .i64 c, .int .i64 i], .int .i64 fd, .int .i64 n] w fun e w' => e = .returned (.bool true) ∧ Fr none' w w' := by
  have f0 := (Fr.refl none' w).alloc (.cells (ibox o a b c i) 23)
  have r0 := row_alloc w (ibox o a b c i) 23
  unfold ibox at f0
  have A1 := right_any o a b c i
  have A2 := kind_any o
  have A3 := right_any o a b c n
  rw [h] at A1
  rw [hk, show fs 1 = ⟨#[97, 105]⟩ from rfl] at A2
  have hz := right_I h n
  rw [hk, show hI 1 = true from rfl] at hz
  have HZ : Hid (rightI o a b c n = fld true n 65535) := hz
  generalize rightI o a b c n = z at *
  clear h hk hz
  go_enter Try.func7, Try.ntmps7
  go_wp2_with fail
  refine (awake_any _).mono ?_
  rintro e x1 ⟨rfl, f1⟩
  replace r0 := r0.keep f1 (fun h => h)
  replace f0 := f0.trans f1
  clear f1
  obtain ⟨r0c0, r0c1, r0c2, r0c3, r0c4⟩ := ibox_cells r0
  go_wp2_with fail
  refine (A1 _).mono ?_
  rintro e x2 ⟨rfl, f1⟩
  replace r0 := r0.keep f1 (fun h => h)
  replace f0 := f0.trans f1
  clear f1
  clear r0c0 r0c1 r0c2 r0c3 r0c4
  obtain ⟨r0c0, r0c1, r0c2, r0c3, r0c4⟩ := ibox_cells r0
  go_wp2_with fail
  refine (A2 _).mono ?_
  rintro e x3 ⟨rfl, f1⟩
  replace r0 := r0.keep f1 (fun h => h)
  replace f0 := f0.trans f1
  clear f1
  clear r0c0 r0c1 r0c2 r0c3 r0c4
  obtain ⟨r0c0, r0c1, r0c2, r0c3, r0c4⟩ := ibox_cells r0
  replace f0 := f0.alloc (.cells (ibox o a b c n) 23)
  unfold ibox at f0
  go_wp2_with fail
  refine wp_loop_rounds 3 ?_
  rw [rounds_succ]; go_wp2_with fail
  rw [rounds_succ]; go_wp2_with fail
  rw [rounds_succ]; go_wp2_with fail
  refine (A3 _).mono ?_
  rintro e y1 ⟨rfl, f1⟩
  replace f0 := f0.trans f1
  clear f1 A1 A2 A3
  go_wp2_with fail
  all_goals go_ret
  all_goals refine ⟨ret_bool ?_, f0⟩
  all_goals (rw [HZ.out]; simp_all [fld])

set_option maxHeartbeats 3200000 in
set_option maxRecDepth 100000 in
theorem fields_2_A (o a b c i n : Int) (w : World) (h : rightI o a b c i = true) (hk : kf o = 2) :
    Calls Try.prog 7 #[.agg #[.int .i64 o, .int .i64 a, .int .i64 b, .int .i64 c, .int .i64 i], .int .i64 0, .int .i64 n] w fun e w' => e = .returned (.bool true) ∧ Fr none' w w' := by
  have f0 := (Fr.refl none' w).alloc (.cells (ibox o a b c i) 23)
  have r0 := row_alloc w (ibox o a b c i) 23
  unfold ibox at f0
  have A1 := right_any o a b c i
  have A2 := kind_any o
  have A3 := right_any o n b c i
  rw [h] at A1
  rw [hk, show fs 2 = ⟨#[97, 98, 99]⟩ from rfl] at A2
  have hz := right_A h n
  rw [hk, show hA 2 = true from rfl] at hz
  have HZ : Hid (rightI o n b c i = fld true n 15) := hz
  generalize rightI o n b c i = z at *
  clear h hk hz
  go_enter Try.func7, Try.ntmps7
  go_wp2_with fail
  refine (awake_any _).mono ?_
  rintro e x1 ⟨rfl, f1⟩
  replace r0 := r0.keep f1 (fun h => h)
  replace f0 := f0.trans f1
  clear f1
  obtain ⟨r0c0, r0c1, r0c2, r0c3, r0c4⟩ := ibox_cells r0
  go_wp2_with fail
  refine (A1 _).mono ?_
  rintro e x2 ⟨rfl, f1⟩
  replace r0 := r0.keep f1 (fun h => h)
  replace f0 := f0.trans f1
  clear f1
  clear r0c0 r0c1 r0c2 r0c3 r0c4
  obtain ⟨r0c0, r0c1, r0c2, r0c3, r0c4⟩ := ibox_cells r0
  go_wp2_with fail
  refine (A2 _).mono ?_
  rintro e x3 ⟨rfl, f1⟩
  replace r0 := r0.keep f1 (fun h => h)
  replace f0 := f0.trans f1
  clear f1
  clear r0c0 r0c1 r0c2 r0c3 r0c4
  obtain ⟨r0c0, r0c1, r0c2, r0c3, r0c4⟩ := ibox_cells r0
  replace f0 := f0.alloc (.cells (ibox o n b c i) 23)
  unfold ibox at f0
  go_wp2_with fail
  refine wp_loop_rounds 4 ?_
  rw [rounds_succ]; go_wp2_with fail
  rw [rounds_succ]; go_wp2_with fail
  rw [rounds_succ]; go_wp2_with fail
  rw [rounds_succ]; go_wp2_with fail
  refine (A3 _).mono ?_
  rintro e y1 ⟨rfl, f1⟩
  replace f0 := f0.trans f1
  clear f1 A1 A2 A3
  go_wp2_with fail
  all_goals go_ret
  all_goals refine ⟨ret_bool ?_, f0⟩
  all_goals (rw [HZ.out]; simp_all [fld])

set_option maxHeartbeats 3200000 in
set_option maxRecDepth 100000 in
theorem fields_2_B (o a b c i n : Int) (w : World) (h : rightI o a b c i = true) (hk : kf o = 2) :
    Calls Try.prog 7 #[.agg #[.int .i64 o, .int .i64 a, .int .i64 b, .int .i64 c, .int .i64 i], .int .i64 1, .int .i64 n] w fun e w' => e = .returned (.bool true) ∧ Fr none' w w' := by
  have f0 := (Fr.refl none' w).alloc (.cells (ibox o a b c i) 23)
  have r0 := row_alloc w (ibox o a b c i) 23
  unfold ibox at f0
  have A1 := right_any o a b c i
  have A2 := kind_any o
  have A3 := right_any o a n c i
  rw [h] at A1
  rw [hk, show fs 2 = ⟨#[97, 98, 99]⟩ from rfl] at A2
  have hz := right_B h n
  rw [hk, show hB 2 = true from rfl] at hz
  have HZ : Hid (rightI o a n c i = fld true n 15) := hz
  generalize rightI o a n c i = z at *
  clear h hk hz
  go_enter Try.func7, Try.ntmps7
  go_wp2_with fail
  refine (awake_any _).mono ?_
  rintro e x1 ⟨rfl, f1⟩
  replace r0 := r0.keep f1 (fun h => h)
  replace f0 := f0.trans f1
  clear f1
  obtain ⟨r0c0, r0c1, r0c2, r0c3, r0c4⟩ := ibox_cells r0
  go_wp2_with fail
  refine (A1 _).mono ?_
  rintro e x2 ⟨rfl, f1⟩
  replace r0 := r0.keep f1 (fun h => h)
  replace f0 := f0.trans f1
  clear f1
  clear r0c0 r0c1 r0c2 r0c3 r0c4
  obtain ⟨r0c0, r0c1, r0c2, r0c3, r0c4⟩ := ibox_cells r0
  go_wp2_with fail
  refine (A2 _).mono ?_
  rintro e x3 ⟨rfl, f1⟩
  replace r0 := r0.keep f1 (fun h => h)
  replace f0 := f0.trans f1
  clear f1
  clear r0c0 r0c1 r0c2 r0c3 r0c4
  obtain ⟨r0c0, r0c1, r0c2, r0c3, r0c4⟩ := ibox_cells r0
  replace f0 := f0.alloc (.cells (ibox o a n c i) 23)
  unfold ibox at f0
  go_wp2_with fail
  refine wp_loop_rounds 4 ?_
  rw [rounds_succ]; go_wp2_with fail
  rw [rounds_succ]; go_wp2_with fail
  rw [rounds_succ]; go_wp2_with fail
  rw [rounds_succ]; go_wp2_with fail
  refine (A3 _).mono ?_
  rintro e y1 ⟨rfl, f1⟩
  replace f0 := f0.trans f1
  clear f1 A1 A2 A3
  go_wp2_with fail
  all_goals go_ret
  all_goals refine ⟨ret_bool ?_, f0⟩
  all_goals (rw [HZ.out]; simp_all [fld])

set_option maxHeartbeats 3200000 in
set_option maxRecDepth 100000 in
theorem fields_2_C (o a b c i n : Int) (w : World) (h : rightI o a b c i = true) (hk : kf o = 2) :
    Calls Try.prog 7 #[.agg #[.int .i64 o, .int .i64 a, .int .i64 b, .int .i64 c, .int .i64 i], .int .i64 2, .int .i64 n] w fun e w' => e = .returned (.bool true) ∧ Fr none' w w' := by
  have f0 := (Fr.refl none' w).alloc (.cells (ibox o a b c i) 23)
  have r0 := row_alloc w (ibox o a b c i) 23
  unfold ibox at f0
  have A1 := right_any o a b c i
  have A2 := kind_any o
  have A3 := right_any o a b n i
  rw [h] at A1
  rw [hk, show fs 2 = ⟨#[97, 98, 99]⟩ from rfl] at A2
  have hz := right_C h n
  rw [hk, show hC 2 = true from rfl] at hz
  have HZ : Hid (rightI o a b n i = fld true n 15) := hz
  generalize rightI o a b n i = z at *
  clear h hk hz
  go_enter Try.func7, Try.ntmps7
  go_wp2_with fail
  refine (awake_any _).mono ?_
  rintro e x1 ⟨rfl, f1⟩
  replace r0 := r0.keep f1 (fun h => h)
  replace f0 := f0.trans f1
  clear f1
  obtain ⟨r0c0, r0c1, r0c2, r0c3, r0c4⟩ := ibox_cells r0
  go_wp2_with fail
  refine (A1 _).mono ?_
  rintro e x2 ⟨rfl, f1⟩
  replace r0 := r0.keep f1 (fun h => h)
  replace f0 := f0.trans f1
  clear f1
  clear r0c0 r0c1 r0c2 r0c3 r0c4
  obtain ⟨r0c0, r0c1, r0c2, r0c3, r0c4⟩ := ibox_cells r0
  go_wp2_with fail
  refine (A2 _).mono ?_
  rintro e x3 ⟨rfl, f1⟩
  replace r0 := r0.keep f1 (fun h => h)
  replace f0 := f0.trans f1
  clear f1
  clear r0c0 r0c1 r0c2 r0c3 r0c4
  obtain ⟨r0c0, r0c1, r0c2, r0c3, r0c4⟩ := ibox_cells r0
  replace f0 := f0.alloc (.cells (ibox o a b n i) 23)
  unfold ibox at f0
  go_wp2_with fail
  refine wp_loop_rounds 4 ?_
  rw [rounds_succ]; go_wp2_with fail
  rw [rounds_succ]; go_wp2_with fail
  rw [rounds_succ]; go_wp2_with fail
  rw [rounds_succ]; go_wp2_with fail
  refine (A3 _).mono ?_
  rintro e y1 ⟨rfl, f1⟩
  replace f0 := f0.trans f1
  clear f1 A1 A2 A3
  go_wp2_with fail
  all_goals go_ret
  all_goals refine ⟨ret_bool ?_, f0⟩
  all_goals (rw [HZ.out]; simp_all [fld])

set_option maxHeartbeats 3200000 in
set_option maxRecDepth 100000 in
theorem fields_2_I (o a b c i fd n : Int) (w : World) (h : rightI o a b c i = true) (hk : kf o = 2) (n0 : (fd == 0) = false) (n1 : (fd == 1) = false) (n2 : (fd == 2) = false) :
    Calls Try.prog 7 #[.agg #[.int .i64 o, .int .i64 a, .int .i64 b, .int .i64 c, .int .i64 i], .int .i64 fd, .int .i64 n] w fun e w' => e = .returned (.bool true) ∧ Fr none' w w' := by
  have f0 := (Fr.refl none' w).alloc (.cells (ibox o a b c i) 23)
  have r0 := row_alloc w (ibox o a b c i) 23
  unfold ibox at f0
  have A1 := right_any o a b c i
  have A2 := kind_any o
  have A3 := right_any o a b c n
  rw [h] at A1
  rw [hk, show fs 2 = ⟨#[97, 98, 99]⟩ from rfl] at A2
  have hz := right_I h n
  rw [hk, show hI 2 = false from rfl] at hz
  have HZ : Hid (rightI o a b c n = fld false n 65535) := hz
  generalize rightI o a b c n = z at *
  clear h hk hz
  go_enter Try.func7, Try.ntmps7
  go_wp2_with fail
  refine (awake_any _).mono ?_
  rintro e x1 ⟨rfl, f1⟩
  replace r0 := r0.keep f1 (fun h => h)
  replace f0 := f0.trans f1
  clear f1
  obtain ⟨r0c0, r0c1, r0c2, r0c3, r0c4⟩ := ibox_cells r0
  go_wp2_with fail
  refine (A1 _).mono ?_
  rintro e x2 ⟨rfl, f1⟩
  replace r0 := r0.keep f1 (fun h => h)
  replace f0 := f0.trans f1
  clear f1
  clear r0c0 r0c1 r0c2 r0c3 r0c4
  obtain ⟨r0c0, r0c1, r0c2, r0c3, r0c4⟩ := ibox_cells r0
  go_wp2_with fail
  refine (A2 _).mono ?_
  rintro e x3 ⟨rfl, f1⟩
  replace r0 := r0.keep f1 (fun h => h)
  replace f0 := f0.trans f1
  clear f1
  clear r0c0 r0c1 r0c2 r0c3 r0c4
  obtain ⟨r0c0, r0c1, r0c2, r0c3, r0c4⟩ := ibox_cells r0
  replace f0 := f0.alloc (.cells (ibox o a b c n) 23)
  unfold ibox at f0
  go_wp2_with fail
  refine wp_loop_rounds 4 ?_
  rw [rounds_succ]; go_wp2_with fail
  rw [rounds_succ]; go_wp2_with fail
  rw [rounds_succ]; go_wp2_with fail
  rw [rounds_succ]; go_wp2_with fail
  refine (A3 _).mono ?_
  rintro e y1 ⟨rfl, f1⟩
  replace f0 := f0.trans f1
  clear f1 A1 A2 A3
  go_wp2_with fail
  all_goals go_ret
  all_goals refine ⟨ret_bool ?_, f0⟩
  all_goals (rw [HZ.out]; simp_all [fld])

set_option maxHeartbeats 3200000 in
set_option maxRecDepth 100000 in
theorem fields_3_A (o a b c i n : Int) (w : World) (h : rightI o a b c i = true) (hk : kf o = 3) :
    Calls Try.prog 7 #[.agg #[.int .i64 o, .int .i64 a, .int .i64 b, .int .i64 c, .int .i64 i], .int .i64 0, .int .i64 n] w fun e w' => e = .returned (.bool true) ∧ Fr none' w w' := by
  have f0 := (Fr.refl none' w).alloc (.cells (ibox o a b c i) 23)
  have r0 := row_alloc w (ibox o a b c i) 23
  unfold ibox at f0
  have A1 := right_any o a b c i
  have A2 := kind_any o
  have A3 := right_any o n b c i
  rw [h] at A1
  rw [hk, show fs 3 = ⟨#[97, 98, 105]⟩ from rfl] at A2
  have hz := right_A h n
  rw [hk, show hA 3 = true from rfl] at hz
  have HZ : Hid (rightI o n b c i = fld true n 15) := hz
  generalize rightI o n b c i = z at *
  clear h hk hz
  go_enter Try.func7, Try.ntmps7
  go_wp2_with fail
  refine (awake_any _).mono ?_
  rintro e x1 ⟨rfl, f1⟩
  replace r0 := r0.keep f1 (fun h => h)
  replace f0 := f0.trans f1
  clear f1
  obtain ⟨r0c0, r0c1, r0c2, r0c3, r0c4⟩ := ibox_cells r0
  go_wp2_with fail
  refine (A1 _).mono ?_
  rintro e x2 ⟨rfl, f1⟩
  replace r0 := r0.keep f1 (fun h => h)
  replace f0 := f0.trans f1
  clear f1
  clear r0c0 r0c1 r0c2 r0c3 r0c4
  obtain ⟨r0c0, r0c1, r0c2, r0c3, r0c4⟩ := ibox_cells r0
  go_wp2_with fail
  refine (A2 _).mono ?_
  rintro e x3 ⟨rfl, f1⟩
  replace r0 := r0.keep f1 (fun h => h)
  replace f0 := f0.trans f1
  clear f1
  clear r0c0 r0c1 r0c2 r0c3 r0c4
  obtain ⟨r0c0, r0c1, r0c2, r0c3, r0c4⟩ := ibox_cells r0
  replace f0 := f0.alloc (.cells (ibox o n b c i) 23)
  unfold ibox at f0
  go_wp2_with fail
  refine wp_loop_rounds 4 ?_
  rw [rounds_succ]; go_wp2_with fail
  rw [rounds_succ]; go_wp2_with fail
  rw [rounds_succ]; go_wp2_with fail
  rw [rounds_succ]; go_wp2_with fail
  refine (A3 _).mono ?_
  rintro e y1 ⟨rfl, f1⟩
  replace f0 := f0.trans f1
  clear f1 A1 A2 A3
  go_wp2_with fail
  all_goals go_ret
  all_goals refine ⟨ret_bool ?_, f0⟩
  all_goals (rw [HZ.out]; simp_all [fld])

set_option maxHeartbeats 3200000 in
set_option maxRecDepth 100000 in
theorem fields_3_B (o a b c i n : Int) (w : World) (h : rightI o a b c i = true) (hk : kf o = 3) :
    Calls Try.prog 7 #[.agg #[.int .i64 o, .int .i64 a, .int .i64 b, .int .i64 c, .int .i64 i], .int .i64 1, .int .i64 n] w fun e w' => e = .returned (.bool true) ∧ Fr none' w w' := by
  have f0 := (Fr.refl none' w).alloc (.cells (ibox o a b c i) 23)
  have r0 := row_alloc w (ibox o a b c i) 23
  unfold ibox at f0
  have A1 := right_any o a b c i
  have A2 := kind_any o
  have A3 := right_any o a n c i
  rw [h] at A1
  rw [hk, show fs 3 = ⟨#[97, 98, 105]⟩ from rfl] at A2
  have hz := right_B h n
  rw [hk, show hB 3 = true from rfl] at hz
  have HZ : Hid (rightI o a n c i = fld true n 15) := hz
  generalize rightI o a n c i = z at *
  clear h hk hz
  go_enter Try.func7, Try.ntmps7
  go_wp2_with fail
  refine (awake_any _).mono ?_
  rintro e x1 ⟨rfl, f1⟩
  replace r0 := r0.keep f1 (fun h => h)
  replace f0 := f0.trans f1
  clear f1
  obtain ⟨r0c0, r0c1, r0c2, r0c3, r0c4⟩ := ibox_cells r0
  go_wp2_with fail
  refine (A1 _).mono ?_
  rintro e x2 ⟨rfl, f1⟩
  replace r0 := r0.keep f1 (fun h => h)
  replace f0 := f0.trans f1
  clear f1
  clear r0c0 r0c1 r0c2 r0c3 r0c4
  obtain ⟨r0c0, r0c1, r0c2, r0c3, r0c4⟩ := ibox_cells r0
  go_wp2_with fail
  refine (A2 _).mono ?_
  rintro e x3 ⟨rfl, f1⟩
  replace r0 := r0.keep f1 (fun h => h)
  replace f0 := f0.trans f1
  clear f1
  clear r0c0 r0c1 r0c2 r0c3 r0c4
  obtain ⟨r0c0, r0c1, r0c2, r0c3, r0c4⟩ := ibox_cells r0
  replace f0 := f0.alloc (.cells (ibox o a n c i) 23)
  unfold ibox at f0
  go_wp2_with fail
  refine wp_loop_rounds 4 ?_
  rw [rounds_succ]; go_wp2_with fail
  rw [rounds_succ]; go_wp2_with fail
  rw [rounds_succ]; go_wp2_with fail
  rw [rounds_succ]; go_wp2_with fail
  refine (A3 _).mono ?_
  rintro e y1 ⟨rfl, f1⟩
  replace f0 := f0.trans f1
  clear f1 A1 A2 A3
  go_wp2_with fail
  all_goals go_ret
  all_goals refine ⟨ret_bool ?_, f0⟩
  all_goals (rw [HZ.out]; simp_all [fld])

set_option maxHeartbeats 3200000 in
set_option maxRecDepth 100000 in
theorem fields_3_C (o a b c i n : Int) (w : World) (h : rightI o a b c i = true) (hk : kf o = 3) :
    Calls Try.prog 7 #[.agg #[.int .i64 o, .int .i64 a, .int .i64 b, .int .i64 c, .int .i64 i], .int .i64 2, .int .i64 n] w fun e w' => e = .returned (.bool true) ∧ Fr none' w w' := by
  have f0 := (Fr.refl none' w).alloc (.cells (ibox o a b c i) 23)
  have r0 := row_alloc w (ibox o a b c i) 23
  unfold ibox at f0
  have A1 := right_any o a b c i
  have A2 := kind_any o
  have A3 := right_any o a b n i
  rw [h] at A1
  rw [hk, show fs 3 = ⟨#[97, 98, 105]⟩ from rfl] at A2
  have hz := right_C h n
  rw [hk, show hC 3 = false from rfl] at hz
  have HZ : Hid (rightI o a b n i = fld false n 15) := hz
  generalize rightI o a b n i = z at *
  clear h hk hz
  go_enter Try.func7, Try.ntmps7
  go_wp2_with fail
  refine (awake_any _).mono ?_
  rintro e x1 ⟨rfl, f1⟩
  replace r0 := r0.keep f1 (fun h => h)
  replace f0 := f0.trans f1
  clear f1
  obtain ⟨r0c0, r0c1, r0c2, r0c3, r0c4⟩ := ibox_cells r0
  go_wp2_with fail
  refine (A1 _).mono ?_
  rintro e x2 ⟨rfl, f1⟩
  replace r0 := r0.keep f1 (fun h => h)
  replace f0 := f0.trans f1
  clear f1
  clear r0c0 r0c1 r0c2 r0c3 r0c4
  obtain ⟨r0c0, r0c1, r0c2, r0c3, r0c4⟩ := ibox_cells r0
  go_wp2_with fail
  refine (A2 _).mono ?_
  rintro e x3 ⟨rfl, f1⟩
  replace r0 := r0.keep f1 (fun h => h)
  replace f0 := f0.trans f1
  clear f1
  clear r0c0 r0c1 r0c2 r0c3 r0c4
  obtain ⟨r0c0, r0c1, r0c2, r0c3, r0c4⟩ := ibox_cells r0
  replace f0 := f0.alloc (.cells (ibox o a b n i) 23)
  unfold ibox at f0
  go_wp2_with fail
  refine wp_loop_rounds 4 ?_
  rw [rounds_succ]; go_wp2_with fail
  rw [rounds_succ]; go_wp2_with fail
  rw [rounds_succ]; go_wp2_with fail
  rw [rounds_succ]; go_wp2_with fail
  refine (A3 _).mono ?_
  rintro e y1 ⟨rfl, f1⟩
  replace f0 := f0.trans f1
  clear f1 A1 A2 A3
  go_wp2_with fail
  all_goals go_ret
  all_goals refine ⟨ret_bool ?_, f0⟩
  all_goals (rw [HZ.out]; simp_all [fld])

set_option maxHeartbeats 3200000 in
set_option maxRecDepth 100000 in
theorem fields_3_I (o a b c i fd n : Int) (w : World) (h : rightI o a b c i = true) (hk : kf o = 3) (n0 : (fd == 0) = false) (n1 : (fd == 1) = false) (n2 : (fd == 2) = false) :
    Calls Try.prog 7 #[.agg #[.int .i64 o, .int .i64 a, .int .i64 b, .int .i64 c, .int .i64 i], .int .i64 fd, .int .i64 n] w fun e w' => e = .returned (.bool true) ∧ Fr none' w w' := by
  have f0 := (Fr.refl none' w).alloc (.cells (ibox o a b c i) 23)
  have r0 := row_alloc w (ibox o a b c i) 23
  unfold ibox at f0
  have A1 := right_any o a b c i
  have A2 := kind_any o
  have A3 := right_any o a b c n
  rw [h] at A1
  rw [hk, show fs 3 = ⟨#[97, 98, 105]⟩ from rfl] at A2
  have hz := right_I h n
  rw [hk, show hI 3 = true from rfl] at hz
  have HZ : Hid (rightI o a b c n = fld true n 65535) := hz
  generalize rightI o a b c n = z at *
  clear h hk hz
  go_enter Try.func7, Try.ntmps7
  go_wp2_with fail
  refine (awake_any _).mono ?_
  rintro e x1 ⟨rfl, f1⟩
  replace r0 := r0.keep f1 (fun h => h)
  replace f0 := f0.trans f1
  clear f1
  obtain ⟨r0c0, r0c1, r0c2, r0c3, r0c4⟩ := ibox_cells r0
  go_wp2_with fail
  refine (A1 _).mono ?_
  rintro e x2 ⟨rfl, f1⟩
  replace r0 := r0.keep f1 (fun h => h)
  replace f0 := f0.trans f1
  clear f1
  clear r0c0 r0c1 r0c2 r0c3 r0c4
  obtain ⟨r0c0, r0c1, r0c2, r0c3, r0c4⟩ := ibox_cells r0
  go_wp2_with fail
  refine (A2 _).mono ?_
  rintro e x3 ⟨rfl, f1⟩
  replace r0 := r0.keep f1 (fun h => h)
  replace f0 := f0.trans f1
  clear f1
  clear r0c0 r0c1 r0c2 r0c3 r0c4
  obtain ⟨r0c0, r0c1, r0c2, r0c3, r0c4⟩ := ibox_cells r0
  replace f0 := f0.alloc (.cells (ibox o a b c n) 23)
  unfold ibox at f0
  go_wp2_with fail
  refine wp_loop_rounds 4 ?_
  rw [rounds_succ]; go_wp2_with fail
  rw [rounds_succ]; go_wp2_with fail
  rw [rounds_succ]; go_wp2_with fail
  rw [rounds_succ]; go_wp2_with fail
  refine (A3 _).mono ?_
  rintro e y1 ⟨rfl, f1⟩
  replace f0 := f0.trans f1
  clear f1 A1 A2 A3
  go_wp2_with fail
  all_goals go_ret
  all_goals refine ⟨ret_bool ?_, f0⟩
  all_goals (rw [HZ.out]; simp_all [fld])

set_option maxHeartbeats 3200000 in
set_option maxRecDepth 100000 in
theorem fields_4_A (o a b c i n : Int) (w : World) (h : rightI o a b c i = true) (hk : kf o = 4) :
    Calls Try.prog 7 #[.agg #[.int .i64 o, .int .i64 a, .int .i64 b, .int .i64 c, .int .i64 i], .int .i64 0, .int .i64 n] w fun e w' => e = .returned (.bool true) ∧ Fr none' w w' := by
  have f0 := (Fr.refl none' w).alloc (.cells (ibox o a b c i) 23)
  have r0 := row_alloc w (ibox o a b c i) 23
  unfold ibox at f0
  have A1 := right_any o a b c i
  have A2 := kind_any o
  have A3 := right_any o n b c i
  rw [h] at A1
  rw [hk, show fs 4 = ⟨#[105]⟩ from rfl] at A2
  have hz := right_A h n
  rw [hk, show hA 4 = false from rfl] at hz
  have HZ : Hid (rightI o n b c i = fld false n 15) := hz
  generalize rightI o n b c i = z at *
  clear h hk hz
  go_enter Try.func7, Try.ntmps7
  go_wp2_with fail
  refine (awake_any _).mono ?_
  rintro e x1 ⟨rfl, f1⟩
  replace r0 := r0.keep f1 (fun h => h)
  replace f0 := f0.trans f1
  clear f1
  obtain ⟨r0c0, r0c1, r0c2, r0c3, r0c4⟩ := ibox_cells r0
  go_wp2_with fail
  refine (A1 _).mono ?_
  rintro e x2 ⟨rfl, f1⟩
  replace r0 := r0.keep f1 (fun h => h)
  replace f0 := f0.trans f1
  clear f1
  clear r0c0 r0c1 r0c2 r0c3 r0c4
  obtain ⟨r0c0, r0c1, r0c2, r0c3, r0c4⟩ := ibox_cells r0
  go_wp2_with fail
  refine (A2 _).mono ?_
  rintro e x3 ⟨rfl, f1⟩
  replace r0 := r0.keep f1 (fun h => h)
  replace f0 := f0.trans f1
  clear f1
  clear r0c0 r0c1 r0c2 r0c3 r0c4
  obtain ⟨r0c0, r0c1, r0c2, r0c3, r0c4⟩ := ibox_cells r0
  replace f0 := f0.alloc (.cells (ibox o n b c i) 23)
  unfold ibox at f0
  go_wp2_with fail
  refine wp_loop_rounds 2 ?_
  rw [rounds_succ]; go_wp2_with fail
  rw [rounds_succ]; go_wp2_with fail
  refine (A3 _).mono ?_
  rintro e y1 ⟨rfl, f1⟩
  replace f0 := f0.trans f1
  clear f1 A1 A2 A3
  go_wp2_with fail
  all_goals go_ret
  all_goals refine ⟨ret_bool ?_, f0⟩
  all_goals (rw [HZ.out]; simp_all [fld])

set_option maxHeartbeats 3200000 in
set_option maxRecDepth 100000 in
theorem fields_4_B (o a b c i n : Int) (w : World) (h : rightI o a b c i = true) (hk : kf o = 4) :
    Calls Try.prog 7 #[.agg #[.int .i64 o, .int .i64 a, .int .i64 b, .int .i64 c, .int .i64 i], .int .i64 1, .int .i64 n] w fun e w' => e = .returned (.bool true) ∧ Fr none' w w' := by
  have f0 := (Fr.refl none' w).alloc (.cells (ibox o a b c i) 23)
  have r0 := row_alloc w (ibox o a b c i) 23
  unfold ibox at f0
  have A1 := right_any o a b c i
  have A2 := kind_any o
  have A3 := right_any o a n c i
  rw [h] at A1
  rw [hk, show fs 4 = ⟨#[105]⟩ from rfl] at A2
  have hz := right_B h n
  rw [hk, show hB 4 = false from rfl] at hz
  have HZ : Hid (rightI o a n c i = fld false n 15) := hz
  generalize rightI o a n c i = z at *
  clear h hk hz
  go_enter Try.func7, Try.ntmps7
  go_wp2_with fail
  refine (awake_any _).mono ?_
  rintro e x1 ⟨rfl, f1⟩
  replace r0 := r0.keep f1 (fun h => h)
  replace f0 := f0.trans f1
  clear f1
  obtain ⟨r0c0, r0c1, r0c2, r0c3, r0c4⟩ := ibox_cells r0
  go_wp2_with fail
  refine (A1 _).mono ?_
  rintro e x2 ⟨rfl, f1⟩
  replace r0 := r0.keep f1 (fun h => h)
  replace f0 := f0.trans f1
  clear f1
  clear r0c0 r0c1 r0c2 r0c3 r0c4
  obtain ⟨r0c0, r0c1, r0c2, r0c3, r0c4⟩ := ibox_cells r0
  go_wp2_with fail
  refine (A2 _).mono ?_
  rintro e x3 ⟨rfl, f1⟩
  replace r0 := r0.keep f1 (fun h => h)
  replace f0 := f0.trans f1
  clear f1
  clear r0c0 r0c1 r0c2 r0c3 r0c4
  obtain ⟨r0c0, r0c1, r0c2, r0c3, r0c4⟩ := ibox_cells r0
  replace f0 := f0.alloc (.cells (ibox o a n c i) 23)
  unfold ibox at f0
  go_wp2_with fail
  refine wp_loop_rounds 2 ?_
  rw [rounds_succ]; go_wp2_with fail
  rw [rounds_succ]; go_wp2_with fail
  refine (A3 _).mono ?_
  rintro e y1 ⟨rfl, f1⟩
  replace f0 := f0.trans f1
  clear f1 A1 A2 A3
  go_wp2_with fail
  all_goals go_ret
  all_goals refine ⟨ret_bool ?_, f0⟩
  all_goals (rw [HZ.out]; simp_all [fld])

set_option maxHeartbeats 3200000 in
set_option maxRecDepth 100000 in
theorem fields_4_C (o a b c i n : Int) (w : World) (h : rightI o a b c i = true) (hk : kf o = 4) :
    Calls Try.prog 7 #[.agg #[.int .i64 o, .int .i64 a, .int .i64 b, .int .i64 c, .int .i64 i], .int .i64 2, .int .i64 n] w fun e w' => e = .returned (.bool true) ∧ Fr none' w w' := by
  have f0 := (Fr.refl none' w).alloc (.cells (ibox o a b c i) 23)
  have r0 := row_alloc w (ibox o a b c i) 23
  unfold ibox at f0
  have A1 := right_any o a b c i
  have A2 := kind_any o
  have A3 := right_any o a b n i
  rw [h] at A1
  rw [hk, show fs 4 = ⟨#[105]⟩ from rfl] at A2
  have hz := right_C h n
  rw [hk, show hC 4 = false from rfl] at hz
  have HZ : Hid (rightI o a b n i = fld false n 15) := hz
  generalize rightI o a b n i = z at *
  clear h hk hz
  go_enter Try.func7, Try.ntmps7
  go_wp2_with fail
  refine (awake_any _).mono ?_
  rintro e x1 ⟨rfl, f1⟩
  replace r0 := r0.keep f1 (fun h => h)
  replace f0 := f0.trans f1
  clear f1
  obtain ⟨r0c0, r0c1, r0c2, r0c3, r0c4⟩ := ibox_cells r0
  go_wp2_with fail
  refine (A1 _).mono ?_
  rintro e x2 ⟨rfl, f1⟩
  replace r0 := r0.keep f1 (fun h => h)
  replace f0 := f0.trans f1
  clear f1
  clear r0c0 r0c1 r0c2 r0c3 r0c4
  obtain ⟨r0c0, r0c1, r0c2, r0c3, r0c4⟩ := ibox_cells r0
  go_wp2_with fail
  refine (A2 _).mono ?_
  rintro e x3 ⟨rfl, f1⟩
  replace r0 := r0.keep f1 (fun h => h)
  replace f0 := f0.trans f1
  clear f1
  clear r0c0 r0c1 r0c2 r0c3 r0c4
  obtain ⟨r0c0, r0c1, r0c2, r0c3, r0c4⟩ := ibox_cells r0
  replace f0 := f0.alloc (.cells (ibox o a b n i) 23)
  unfold ibox at f0
  go_wp2_with fail
  refine wp_loop_rounds 2 ?_
  rw [rounds_succ]; go_wp2_with fail
  rw [rounds_succ]; go_wp2_with fail
  refine (A3 _).mono ?_
  rintro e y1 ⟨rfl, f1⟩
  replace f0 := f0.trans f1
  clear f1 A1 A2 A3
  go_wp2_with fail
  all_goals go_ret
  all_goals refine ⟨ret_bool ?_, f0⟩
  all_goals (rw [HZ.out]; simp_all [fld])

set_option maxHeartbeats 3200000 in
set_option maxRecDepth 100000 in
theorem fields_4_I (o a b c i fd n : Int) (w : World) (h : rightI o a b c i = true) (hk : kf o = 4) (n0 : (fd == 0) = false) (n1 : (fd == 1) = false) (n2 : (fd == 2) = false) :
    Calls Try.prog 7 #[.agg #[.int .i64 o, .int .i64 a, .int .i64 b, .int .i64 c, .int .i64 i], .int .i64 fd, .int .i64 n] w fun e w' => e = .returned (.bool true) ∧ Fr none' w w' := by
  have f0 := (Fr.refl none' w).alloc (.cells (ibox o a b c i) 23)
  have r0 := row_alloc w (ibox o a b c i) 23
  unfold ibox at f0
  have A1 := right_any o a b c i
  have A2 := kind_any o
  have A3 := right_any o a b c n
  rw [h] at A1
  rw [hk, show fs 4 = ⟨#[105]⟩ from rfl] at A2
  have hz := right_I h n
  rw [hk, show hI 4 = true from rfl] at hz
  have HZ : Hid (rightI o a b c n = fld true n 65535) := hz
  generalize rightI o a b c n = z at *
  clear h hk hz
  go_enter Try.func7, Try.ntmps7
  go_wp2_with fail
  refine (awake_any _).mono ?_
  rintro e x1 ⟨rfl, f1⟩
  replace r0 := r0.keep f1 (fun h => h)
  replace f0 := f0.trans f1
  clear f1
  obtain ⟨r0c0, r0c1, r0c2, r0c3, r0c4⟩ := ibox_cells r0
  go_wp2_with fail
  refine (A1 _).mono ?_
  rintro e x2 ⟨rfl, f1⟩
  replace r0 := r0.keep f1 (fun h => h)
  replace f0 := f0.trans f1
  clear f1
  clear r0c0 r0c1 r0c2 r0c3 r0c4
  obtain ⟨r0c0, r0c1, r0c2, r0c3, r0c4⟩ := ibox_cells r0
  go_wp2_with fail
  refine (A2 _).mono ?_
  rintro e x3 ⟨rfl, f1⟩
  replace r0 := r0.keep f1 (fun h => h)
  replace f0 := f0.trans f1
  clear f1
  clear r0c0 r0c1 r0c2 r0c3 r0c4
  obtain ⟨r0c0, r0c1, r0c2, r0c3, r0c4⟩ := ibox_cells r0
  replace f0 := f0.alloc (.cells (ibox o a b c n) 23)
  unfold ibox at f0
  go_wp2_with fail
  refine wp_loop_rounds 2 ?_
  rw [rounds_succ]; go_wp2_with fail
  rw [rounds_succ]; go_wp2_with fail
  refine (A3 _).mono ?_
  rintro e y1 ⟨rfl, f1⟩
  replace f0 := f0.trans f1
  clear f1 A1 A2 A3
  go_wp2_with fail
  all_goals go_ret
  all_goals refine ⟨ret_bool ?_, f0⟩
  all_goals (rw [HZ.out]; simp_all [fld])

end Go.Proofs.Ytcbkjbibngopnaa
