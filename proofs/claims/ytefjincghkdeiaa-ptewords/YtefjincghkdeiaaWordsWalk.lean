/-
  The walk of the law PteWords: any entry has just the word that the document says, or none; any word is read as it says: for every entry, word, page and level the law returns true and nothing old turns.
-/
import Derived.Test.YtefjincghkdeiaaPteAwake
import Derived.Test.YtefjincghkdeiaaRefVal
namespace Go.Proofs.Ytefjincghkdeiaa
open Go.RowKit

set_option maxRecDepth 100000 in
set_option maxHeartbeats 1600000 in
theorem words_walk (v l : Bool) (r f : Int) (x : Nat) (page level : Int) (w : World) (hx : x < 65536) :
    Calls Try.prog 3 #[.agg #[.bool v, .bool l, .int .i64 r, .int .i64 f], .int .u16 (x : Int), .int .i64 page, .int .i64 level] w fun e w' => e = .returned (.bool true) ∧ Fr none' w w' := by
  have f0 := (Fr.refl none' w).alloc (.cells (ebox v l r f) 23)
  have r0 := row_alloc w (ebox v l r f) 23
  unfold ebox at f0
  go_enter Try.func3, Try.ntmps3
  go_wp2_with fail
  refine (awake_any _).mono ?_
  rintro e w1 ⟨rfl, f1⟩
  replace r0 := r0.keep f1 (fun h => h)
  replace f0 := f0.trans f1
  clear f1
  obtain ⟨c0, c1, c2, c3⟩ := ebox_cells r0
  go_wp2_with fail
  refine (right_any _ _ _ _ _).mono ?_
  rintro e w2 ⟨rfl, f1⟩
  replace r0 := r0.keep f1 (fun h => h)
  replace f0 := f0.trans f1
  clear f1 c0 c1 c2 c3
  obtain ⟨c0, c1, c2, c3⟩ := ebox_cells r0
  go_wp2_with fail
  refine (rright_any _ _ _ _ _).mono ?_
  rintro e w3 ⟨rfl, f1⟩
  replace r0 := r0.keep f1 (fun h => h)
  replace f0 := f0.trans f1
  clear f1 c0 c1 c2 c3
  obtain ⟨c0, c1, c2, c3⟩ := ebox_cells r0
  go_wp2_with fail
  refine (enc_any _ _ _ _ _).mono ?_
  rintro e w4 ⟨rfl, f1⟩
  replace r0 := r0.keep f1 (fun h => h)
  replace f0 := f0.trans f1
  clear f1 c0 c1 c2 c3
  obtain ⟨c0, c1, c2, c3⟩ := ebox_cells r0
  go_wp2_with fail
  refine (renc_any _ _ _ _ _).mono ?_
  rintro e w5 ⟨rfl, f1⟩
  replace f0 := f0.trans f1
  clear f1 c0 c1 c2 c3 r0
  generalize rightE v l r f = t at *
  generalize encW v l r f = ew at *
  generalize encE v l r f = ee at *
  go_wp2_with fail
  refine (dec_any _ _ hx).mono ?_
  rintro e w6 ⟨rfl, f1⟩
  have q0 := row_alloc w6 (ebox (dv x) (dl x) (dr x) (df x)) 23
  replace f0 := (f0.trans f1).alloc (.cells (ebox (dv x) (dl x) (dr x) (df x)) 23)
  unfold ebox at f0
  clear f1
  go_wp2_with fail
  refine (rdec_any _ _ hx).mono ?_
  rintro e w7 ⟨rfl, f1⟩
  replace q0 := (q0.keep f1 (fun h => h)).alloc (.cells (ebox (dv x) (dl x) (dr x) (df x)) 23)
  have q1 := row_alloc w7 (ebox (dv x) (dl x) (dr x) (df x)) 23
  replace f0 := (f0.trans f1).alloc (.cells (ebox (dv x) (dl x) (dr x) (df x)) 23)
  unfold ebox at f0
  clear f1
  obtain ⟨c0, c1, c2, c3⟩ := ebox_cells q0
  obtain ⟨d0, d1, d2, d3⟩ := ebox_cells q1
  unfold ebox at c0 c1 c2 c3 d0 d1 d2 d3
  generalize de x = y4 at *
  go_wp2_with fail
  refine (index_any _ _ _).mono ?_
  rintro e w8 ⟨rfl, rfl⟩
  go_wp2_with fail
  refine (rindex_any _ _ _).mono ?_
  rintro e w8 ⟨rfl, rfl⟩
  generalize idxOf page level = ix at *
  have t1 : (t == t) = true := by simp
  have t2 : (ew == ew) = true := by simp
  have t3 : (ee == ee) = true := by simp
  have t4 : (y4 == y4) = true := by simp
  have t5 : (ix == ix) = true := by simp
  have t6 : (dv x == dv x) = true := by simp
  have t7 : (dl x == dl x) = true := by simp
  have t8 : (dr x == dr x) = true := by simp
  have t9 : (df x == df x) = true := by simp
  go_wp2_with fail
  go_ret
  exact ⟨rfl, f0⟩

theorem words_any (v l : Bool) (r f : Int) (x : Int) (page level : Int) (w : World) (h0 : 0 ≤ x) (hx : x ≤ 65535) :
    Calls Try.prog 3 #[.agg #[.bool v, .bool l, .int .i64 r, .int .i64 f], .int .u16 x, .int .i64 page, .int .i64 level] w fun e w' => e = .returned (.bool true) ∧ Below w.heap.size w w' := by
  obtain ⟨x, rfl⟩ := Int.eq_ofNat_of_zero_le h0
  exact (words_walk v l r f x page level w (by omega)).mono fun e w' ⟨he, hf⟩ => ⟨he, hf.below (Nat.le_refl _) (fun k h => h.elim)⟩

end Go.Proofs.Ytefjincghkdeiaa
