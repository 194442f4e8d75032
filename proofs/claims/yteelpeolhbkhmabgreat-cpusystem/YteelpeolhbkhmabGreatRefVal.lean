/-
  Contracts of the document's Encode, Decode and Index (package viceroyref02) over the translation, said of plain numbers. No statement is proved here.
-/
import Derived.Test.YteelpeolhbkhmabGreatPteVal
import Derived.Test.YteelpeolhbkhmabGreatRefRight
namespace Go.Proofs.YteelpeolhbkhmabGreat
open Go.RowKit

set_option maxHeartbeats 400000 in
theorem renc_bad (v l : Bool) (r f : Int) (w : World) (h : rightE v l r f = false) :
    Calls Tryz.prog 28 #[.agg #[.bool v, .bool l, .int .i64 r, .int .i64 f]] w fun e w' => e = .returned (.tuple #[.int .u16 0, .int .i64 20]) ∧ Fr none' w w' := by
  have f0 := (Fr.refl none' w).alloc (.cells (ebox v l r f) 68)
  unfold ebox at f0
  go_enter Tryz.func28, Tryz.ntmps28
  go_wp2_with fail
  refine (rright_any _ _ _ _ _).mono ?_
  rintro e w1 ⟨rfl, f1⟩
  rw [h]
  replace f1 := f0.trans f1
  go_wp2
  go_ret2
  exact ⟨rfl, f1⟩

set_option maxHeartbeats 400000 in
theorem renc_leaf (r f : Int) (w : World) (h1 : 0 ≤ r) (h2 : r ≤ 7) (h3 : 0 ≤ f) (h4 : f ≤ 1023) :
    Calls Tryz.prog 28 #[.agg #[.bool true, .bool true, .int .i64 r, .int .i64 f]] w fun e w' => e = .returned (.tuple #[.int .u16 (f * 64 + r * 4 + 3), .int .i64 0]) ∧ Fr none' w w' := by
  have f0 := (Fr.refl none' w).alloc (.cells (ebox true true r f) 68)
  have r0 := row_alloc w (ebox true true r f) 68
  have hr : rightE true true r f = true := by simp [rightE]; omega
  unfold ebox at f0
  go_enter Tryz.func28, Tryz.ntmps28
  go_wp2_with fail
  refine (rright_any _ _ _ _ _).mono ?_
  rintro e w1 ⟨rfl, f1⟩
  rw [hr]
  obtain ⟨c0, c1, c2, c3⟩ := ebox_cells (r0.keep f1 (fun h => h))
  replace f1 := f0.trans f1
  clear f0 r0 hr
  go_wp2
  go_ret2
  exact ⟨ret_u16e (by omega) rfl, f1⟩

set_option maxHeartbeats 400000 in
theorem renc_node (f : Int) (w : World) (h3 : 0 ≤ f) (h4 : f ≤ 1023) :
    Calls Tryz.prog 28 #[.agg #[.bool true, .bool false, .int .i64 0, .int .i64 f]] w fun e w' => e = .returned (.tuple #[.int .u16 (f * 64 + 1), .int .i64 0]) ∧ Fr none' w w' := by
  have f0 := (Fr.refl none' w).alloc (.cells (ebox true false 0 f) 68)
  have r0 := row_alloc w (ebox true false 0 f) 68
  have hr : rightE true false 0 f = true := by simp [rightE]; omega
  unfold ebox at f0
  go_enter Tryz.func28, Tryz.ntmps28
  go_wp2_with fail
  refine (rright_any _ _ _ _ _).mono ?_
  rintro e w1 ⟨rfl, f1⟩
  rw [hr]
  obtain ⟨c0, c1, c2, c3⟩ := ebox_cells (r0.keep f1 (fun h => h))
  replace f1 := f0.trans f1
  clear f0 r0 hr
  go_wp2
  go_ret2
  exact ⟨ret_u16e (by omega) rfl, f1⟩

set_option maxHeartbeats 400000 in
theorem renc_none (w : World) :
    Calls Tryz.prog 28 #[.agg #[.bool false, .bool false, .int .i64 0, .int .i64 0]] w fun e w' => e = .returned (.tuple #[.int .u16 (0), .int .i64 0]) ∧ Fr none' w w' := by
  have f0 := (Fr.refl none' w).alloc (.cells (ebox false false 0 0) 68)
  have r0 := row_alloc w (ebox false false 0 0) 68
  have hr : rightE false false 0 0 = true := by simp [rightE]
  unfold ebox at f0
  go_enter Tryz.func28, Tryz.ntmps28
  go_wp2_with fail
  refine (rright_any _ _ _ _ _).mono ?_
  rintro e w1 ⟨rfl, f1⟩
  rw [hr]
  obtain ⟨c0, c1, c2, c3⟩ := ebox_cells (r0.keep f1 (fun h => h))
  replace f1 := f0.trans f1
  clear f0 r0 hr
  go_wp2
  go_ret2
  exact ⟨ret_u16e (by omega) rfl, f1⟩

theorem renc_ok (v l : Bool) (r f : Int) (w : World) (h : rightE v l r f = true) :
    Calls Tryz.prog 28 #[.agg #[.bool v, .bool l, .int .i64 r, .int .i64 f]] w fun e w' => e = .returned (.tuple #[.int .u16 (wordE v l r f), .int .i64 0]) ∧ Fr none' w w' := by
  rcases right_cases h with ⟨rfl, rfl, rfl, rfl⟩ | ⟨rfl, rfl, rfl, h1, h2⟩ | ⟨rfl, rfl, h1, h2, h3, h4⟩
  · exact renc_none w
  · rw [show wordE true false 0 f = f * 64 + 1 by simp [wordE]]; exact renc_node f w h1 h2
  · rw [show wordE true true r f = f * 64 + r * 4 + 3 by simp [wordE]; omega]; exact renc_leaf r f w h1 h2 h3 h4

theorem renc_any (v l : Bool) (r f : Int) (w : World) :
    Calls Tryz.prog 28 #[.agg #[.bool v, .bool l, .int .i64 r, .int .i64 f]] w fun e w' => e = .returned (.tuple #[.int .u16 (encW v l r f), .int .i64 (encE v l r f)]) ∧ Fr none' w w' := by
  unfold encW encE
  by_cases h : rightE v l r f = true
  · rw [if_pos h, if_pos h]; exact renc_ok v l r f w h
  · rw [if_neg h, if_neg h]; exact renc_bad v l r f w (by simpa using h)

theorem renc_parts (x : Nat) (w : World) (h : decOk x = true) :
    Calls Tryz.prog 28 #[.agg #[.bool ((x : Int) % 2 == 1), .bool ((x : Int) / 2 % 2 == 1), .int .i64 ((x : Int) / 4 % 8), .int .i64 ((x : Int) / 64)]] w fun e w' => e = .returned (.tuple #[.int .u16 (x : Int), .int .i64 0]) ∧ Fr none' w w' := by
  have := renc_ok (pv x) (pl x) (pr x) (pf x) w (ok_right h)
  rwa [word_parts h] at this

end Go.Proofs.YteelpeolhbkhmabGreat
