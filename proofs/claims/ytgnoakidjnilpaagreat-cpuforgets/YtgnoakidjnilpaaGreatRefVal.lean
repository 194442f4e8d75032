/-
  Contracts of the document's Encode, Decode and Index (package viceroyref02) over the translation, said of plain numbers. No statement is proved here.
-/
import Derived.Test.YtgnoakidjnilpaaGreatPteVal
import Derived.Test.YtgnoakidjnilpaaGreatRefRight
namespace Go.Proofs.YtgnoakidjnilpaaGreat
open Go.RowKit

set_option maxHeartbeats 400000 in
theorem renc_bad (v l : Bool) (r f : Int) (w : World) (h : rightE v l r f = false) :
    Calls Tryz.prog 72 #[.agg #[.bool v, .bool l, .int .i64 r, .int .i64 f]] w fun e w' => e = .returned (.tuple #[.int .u16 0, .int .i64 20]) ∧ Fr none' w w' := by
  have f0 := (Fr.refl none' w).alloc (.cells (ebox v l r f) 71)
  unfold ebox at f0
  go_enter Tryz.func72, Tryz.ntmps72
  go_wp2_with fail
  refine (rright_any _ _ _ _ _).mono ?_
  rintro e w1 ⟨rfl, f1⟩
  rw [h]
  replace f1 := f0.trans f1
  go_wp2
  go_ret2
  exact ⟨rfl, f1⟩

set_option maxHeartbeats 400000 in
theorem renc_leaf (r f : Int) (w : World) (h1 : 0 ≤ r) (h2 : r ≤ 7) (h3 : 0 ≤ f) (h4 : f ≤ 1023) :
    Calls Tryz.prog 72 #[.agg #[.bool true, .bool true, .int .i64 r, .int .i64 f]] w fun e w' => e = .returned (.tuple #[.int .u16 (f * 64 + r * 4 + 3), .int .i64 0]) ∧ Fr none' w w' := by
  have f0 := (Fr.refl none' w).alloc (.cells (ebox true true r f) 71)
  have r0 := row_alloc w (ebox true true r f) 71
  have hr : rightE true true r f = true := by simp [rightE]; omega
  unfold ebox at f0
  go_enter Tryz.func72, Tryz.ntmps72
  go_wp2_with fail
  refine (rright_any _ _ _ _ _).mono ?_
  rintro e w1 ⟨rfl, f1⟩
  rw [hr]
  obtain ⟨c0, c1, c2, c3⟩ := ebox_cells (r0.keep f1 (fun h => h))
  replace f1 := f0.trans f1
  clear f0 r0 hr
  go_wp2
  go_ret2
  exact ⟨ret_u16e (by omega) rfl, f1⟩

set_option maxHeartbeats 400000 in
theorem renc_node (f : Int) (w : World) (h3 : 0 ≤ f) (h4 : f ≤ 1023) :
    Calls Tryz.prog 72 #[.agg #[.bool true, .bool false, .int .i64 0, .int .i64 f]] w fun e w' => e = .returned (.tuple #[.int .u16 (f * 64 + 1), .int .i64 0]) ∧ Fr none' w w' := by
  have f0 := (Fr.refl none' w).alloc (.cells (ebox true false 0 f) 71)
  have r0 := row_alloc w (ebox true false 0 f) 71
  have hr : rightE true false 0 f = true := by simp [rightE]; omega
  unfold ebox at f0
  go_enter Tryz.func72, Tryz.ntmps72
  go_wp2_with fail
  refine (rright_any _ _ _ _ _).mono ?_
  rintro e w1 ⟨rfl, f1⟩
  rw [hr]
  obtain ⟨c0, c1, c2, c3⟩ := ebox_cells (r0.keep f1 (fun h => h))
  replace f1 := f0.trans f1
  clear f0 r0 hr
  go_wp2
  go_ret2
  exact ⟨ret_u16e (by omega) rfl, f1⟩

set_option maxHeartbeats 400000 in
theorem renc_none (w : World) :
    Calls Tryz.prog 72 #[.agg #[.bool false, .bool false, .int .i64 0, .int .i64 0]] w fun e w' => e = .returned (.tuple #[.int .u16 (0), .int .i64 0]) ∧ Fr none' w w' := by
  have f0 := (Fr.refl none' w).alloc (.cells (ebox false false 0 0) 71)
  have r0 := row_alloc w (ebox false false 0 0) 71
  have hr : rightE false false 0 0 = true := by simp [rightE]
  unfold ebox at f0
  go_enter Tryz.func72, Tryz.ntmps72
  go_wp2_with fail
  refine (rright_any _ _ _ _ _).mono ?_
  rintro e w1 ⟨rfl, f1⟩
  rw [hr]
  obtain ⟨c0, c1, c2, c3⟩ := ebox_cells (r0.keep f1 (fun h => h))
  replace f1 := f0.trans f1
  clear f0 r0 hr
  go_wp2
  go_ret2
  exact ⟨ret_u16e (by omega) rfl, f1⟩

theorem renc_ok (v l : Bool) (r f : Int) (w : World) (h : rightE v l r f = true) :
    Calls Tryz.prog 72 #[.agg #[.bool v, .bool l, .int .i64 r, .int .i64 f]] w fun e w' => e = .returned (.tuple #[.int .u16 (wordE v l r f), .int .i64 0]) ∧ Fr none' w w' := by
  rcases right_cases h with ⟨rfl, rfl, rfl, rfl⟩ | ⟨rfl, rfl, rfl, h1, h2⟩ | ⟨rfl, rfl, h1, h2, h3, h4⟩
  · exact renc_none w
  · rw [show wordE true false 0 f = f * 64 + 1 by simp [wordE]]; exact renc_node f w h1 h2
  · rw [show wordE true true r f = f * 64 + r * 4 + 3 by simp [wordE]; omega]; exact renc_leaf r f w h1 h2 h3 h4

theorem renc_any (v l : Bool) (r f : Int) (w : World) :
    Calls Tryz.prog 72 #[.agg #[.bool v, .bool l, .int .i64 r, .int .i64 f]] w fun e w' => e = .returned (.tuple #[.int .u16 (encW v l r f), .int .i64 (encE v l r f)]) ∧ Fr none' w w' := by
  unfold encW encE
  by_cases h : rightE v l r f = true
  · rw [if_pos h, if_pos h]; exact renc_ok v l r f w h
  · rw [if_neg h, if_neg h]; exact renc_bad v l r f w (by simpa using h)

theorem renc_parts (x : Nat) (w : World) (h : decOk x = true) :
    Calls Tryz.prog 72 #[.agg #[.bool ((x : Int) % 2 == 1), .bool ((x : Int) / 2 % 2 == 1), .int .i64 ((x : Int) / 4 % 8), .int .i64 ((x : Int) / 64)]] w fun e w' => e = .returned (.tuple #[.int .u16 (x : Int), .int .i64 0]) ∧ Fr none' w w' := by
  have := renc_ok (pv x) (pl x) (pr x) (pf x) w (ok_right h)
  rwa [word_parts h] at this

set_option maxHeartbeats 400000 in
theorem rdec_good (x : Nat) (w : World) (hx : x < 65536) (h : decOk x = true) :
    Calls Tryz.prog 61 #[.int .u16 (x : Int)] w fun e w' => e = .returned (.tuple #[.agg #[.bool (pv x), .bool (pl x), .int .i64 (pr x), .int .i64 (pf x)], .int .i64 0]) ∧ Fr none' w w' := by
  have r1 := (row_alloc w (ebox false false 0 0) 71).alloc (.cells (ebox ((x : Int) % 2 == 1) ((x : Int) / 2 % 2 == 1) ((x : Int) / 4 % 8) ((x : Int) / 64)) 71)
  have q1 := row_alloc (w.alloc (.cells (ebox false false 0 0) 71)) (ebox ((x : Int) % 2 == 1) ((x : Int) / 2 % 2 == 1) ((x : Int) / 4 % 8) ((x : Int) / 64)) 71
  have f1 := ((Fr.refl none' w).alloc (.cells (ebox false false 0 0) 71)).alloc (.cells (ebox ((x : Int) % 2 == 1) ((x : Int) / 2 % 2 == 1) ((x : Int) / 4 % 8) ((x : Int) / 64)) 71)
  rw [show (w.alloc (.cells (ebox false false 0 0) 71)).heap.size = w.heap.size + 1 by simp] at q1
  unfold ebox at f1
  go_enter Tryz.func61, Tryz.ntmps61
  go_wp2_with fail
  refine (renc_parts _ _ h).mono ?_
  rintro e w2 ⟨rfl, f2⟩
  have r2 := r1.keep f2 (fun h => h)
  have q2 := q1.keep f2 (fun h => h)
  replace f2 := f1.trans f2
  clear r1 q1 f1
  obtain ⟨c0, c1, c2, c3⟩ := ebox_cells r2
  obtain ⟨k0, k1, k2, k3⟩ := ebox_frozen r2
  obtain ⟨d0, d1, d2, d3⟩ := ebox_cells q2
  go_wp2_with fail
  refine bodyPost_ret (ret_cell_tmp rfl rfl (ebox_set r2) rfl) rfl ?_
  exact ⟨rfl, ebox_fr f2 (Or.inl (Nat.le_refl _))⟩

set_option maxHeartbeats 400000 in
theorem rdec_bad1 (x : Nat) (w : World) (hx : x < 65536) (h : rightE (pv x) (pl x) (pr x) (pf x) = false) :
    Calls Tryz.prog 61 #[.int .u16 (x : Int)] w fun e w' => e = .returned (.tuple #[.agg #[.bool false, .bool false, .int .i64 0, .int .i64 0], .int .i64 20]) ∧ Fr none' w w' := by
  have r1 := (row_alloc w (ebox false false 0 0) 71).alloc (.cells (ebox ((x : Int) % 2 == 1) ((x : Int) / 2 % 2 == 1) ((x : Int) / 4 % 8) ((x : Int) / 64)) 71)
  have q1 := row_alloc (w.alloc (.cells (ebox false false 0 0) 71)) (ebox ((x : Int) % 2 == 1) ((x : Int) / 2 % 2 == 1) ((x : Int) / 4 % 8) ((x : Int) / 64)) 71
  have f1 := ((Fr.refl none' w).alloc (.cells (ebox false false 0 0) 71)).alloc (.cells (ebox ((x : Int) % 2 == 1) ((x : Int) / 2 % 2 == 1) ((x : Int) / 4 % 8) ((x : Int) / 64)) 71)
  rw [show (w.alloc (.cells (ebox false false 0 0) 71)).heap.size = w.heap.size + 1 by simp] at q1
  unfold ebox at f1
  go_enter Tryz.func61, Tryz.ntmps61
  go_wp2_with fail
  refine (renc_bad _ _ _ _ _ h).mono ?_
  rintro e w2 ⟨rfl, f2⟩
  have r2 := r1.keep f2 (fun h => h)
  have q2 := q1.keep f2 (fun h => h)
  replace f2 := f1.trans f2
  clear r1 q1 f1
  obtain ⟨c0, c1, c2, c3⟩ := ebox_cells r2
  obtain ⟨k0, k1, k2, k3⟩ := ebox_frozen r2
  obtain ⟨d0, d1, d2, d3⟩ := ebox_cells q2
  go_wp2_with fail
  refine bodyPost_ret (ret_cell_tmp rfl rfl (ebox_set r2) rfl) rfl ?_
  exact ⟨rfl, ebox_fr f2 (Or.inl (Nat.le_refl _))⟩

set_option maxHeartbeats 400000 in
theorem rdec_bad2 (x : Nat) (w : World) (hx : x < 65536) (h : rightE (pv x) (pl x) (pr x) (pf x) = true) (hn : wordE (pv x) (pl x) (pr x) (pf x) ≠ (x : Int)) :
    Calls Tryz.prog 61 #[.int .u16 (x : Int)] w fun e w' => e = .returned (.tuple #[.agg #[.bool false, .bool false, .int .i64 0, .int .i64 0], .int .i64 20]) ∧ Fr none' w w' := by
  have r1 := (row_alloc w (ebox false false 0 0) 71).alloc (.cells (ebox ((x : Int) % 2 == 1) ((x : Int) / 2 % 2 == 1) ((x : Int) / 4 % 8) ((x : Int) / 64)) 71)
  have q1 := row_alloc (w.alloc (.cells (ebox false false 0 0) 71)) (ebox ((x : Int) % 2 == 1) ((x : Int) / 2 % 2 == 1) ((x : Int) / 4 % 8) ((x : Int) / 64)) 71
  have f1 := ((Fr.refl none' w).alloc (.cells (ebox false false 0 0) 71)).alloc (.cells (ebox ((x : Int) % 2 == 1) ((x : Int) / 2 % 2 == 1) ((x : Int) / 4 % 8) ((x : Int) / 64)) 71)
  rw [show (w.alloc (.cells (ebox false false 0 0) 71)).heap.size = w.heap.size + 1 by simp] at q1
  unfold ebox at f1
  have t1 : (wordE (pv x) (pl x) (pr x) (pf x) != (x : Int)) = true := by simpa using hn
  go_enter Tryz.func61, Tryz.ntmps61
  go_wp2_with fail
  refine (renc_ok (pv x) (pl x) (pr x) (pf x) _ h).mono ?_
  rintro e w2 ⟨rfl, f2⟩
  have r2 := r1.keep f2 (fun h => h)
  have q2 := q1.keep f2 (fun h => h)
  replace f2 := f1.trans f2
  clear r1 q1 f1
  obtain ⟨c0, c1, c2, c3⟩ := ebox_cells r2
  obtain ⟨k0, k1, k2, k3⟩ := ebox_frozen r2
  obtain ⟨d0, d1, d2, d3⟩ := ebox_cells q2
  go_wp2_with fail
  refine bodyPost_ret (ret_cell_tmp rfl rfl (ebox_set r2) rfl) rfl ?_
  exact ⟨rfl, ebox_fr f2 (Or.inl (Nat.le_refl _))⟩

/-- Decode, whatever word. -/
theorem rdec_any (x : Nat) (w : World) (hx : x < 65536) :
    Calls Tryz.prog 61 #[.int .u16 (x : Int)] w fun e w' => e = .returned (.tuple #[.agg #[.bool (dv x), .bool (dl x), .int .i64 (dr x), .int .i64 (df x)], .int .i64 (de x)]) ∧ Fr none' w w' := by
  unfold dv dl dr df de
  by_cases h : decOk x = true
  · rw [h]; simpa using rdec_good x w hx h
  · have h' : decOk x = false := by simpa using h
    rw [h']
    simp only [Bool.false_and, Bool.false_eq_true, if_false]
    by_cases hr : rightE (pv x) (pl x) (pr x) (pf x) = true
    · exact rdec_bad2 x w hx hr (bad_word h' hr)
    · exact rdec_bad1 x w hx (by simpa using hr)

theorem rdec_int (x : Int) (w : World) (h0 : 0 ≤ x) (hx : x ≤ 65535) :
    Calls Tryz.prog 61 #[.int .u16 x] w fun e w' => e = .returned (.tuple #[.agg #[.bool (dv x), .bool (dl x), .int .i64 (dr x), .int .i64 (df x)], .int .i64 (de x)]) ∧ Fr none' w w' := by
  obtain ⟨n, rfl⟩ := Int.eq_ofNat_of_zero_le h0
  exact rdec_any n w (by omega)

set_option maxHeartbeats 400000 in
theorem rindex_out (page level : Int) (w : World) (h : page < 0 ∨ 1023 < page) :
    Calls Tryz.prog 118 #[.int .i64 page, .int .i64 level] w fun e w' => e = .returned (.int .i64 0) ∧ w = w' := by
  by_cases h0 : page < 0
  · have t1 : decide (page < 0) = true := by simpa using h0
    clear h h0
    go_enter Tryz.func118, Tryz.ntmps118
    go_wp2
    go_ret
    exact ⟨rfl, rfl⟩
  · have t1 : decide (page < 0) = false := by simpa using h0
    have t2 : decide (1023 < page) = true := by simp; omega
    clear h h0
    go_enter Tryz.func118, Tryz.ntmps118
    go_wp2
    go_ret
    exact ⟨rfl, rfl⟩

set_option maxHeartbeats 400000 in
theorem rindex_in (page level : Int) (w : World) (h0 : 0 ≤ page) (h1 : page ≤ 1023) :
    Calls Tryz.prog 118 #[.int .i64 page, .int .i64 level] w fun e w' => e = .returned (.int .i64 (if level = 0 then page / 32 else if level = 1 then page % 32 else 0)) ∧ w = w' := by
  have t1 : decide (page < 0) = false := by simpa using h0
  have t2 : decide (1023 < page) = false := by simp; omega
  by_cases l0 : level = 0
  · subst l0
    rw [if_pos rfl]
    go_enter Tryz.func118, Tryz.ntmps118
    go_wp2
    go_ret
    exact ⟨rfl, rfl⟩
  by_cases l1 : level = 1
  · subst l1
    rw [if_neg l0, if_pos rfl]
    go_enter Tryz.func118, Tryz.ntmps118
    go_wp2
    go_ret
    exact ⟨rfl, rfl⟩
  · rw [if_neg l0, if_neg l1]
    have t3 : (level == 0) = false := by simpa using l0
    have t4 : (level == 1) = false := by simpa using l1
    clear l0 l1
    go_enter Tryz.func118, Tryz.ntmps118
    go_wp2
    go_ret
    exact ⟨rfl, rfl⟩

theorem rindex_any (page level : Int) (w : World) : Calls Tryz.prog 118 #[.int .i64 page, .int .i64 level] w fun e w' => e = .returned (.int .i64 (idxOf page level)) ∧ w = w' := by
  unfold idxOf
  by_cases h : page < 0 ∨ 1023 < page
  · rw [if_pos h]; exact rindex_out page level w h
  · rw [if_neg h]; exact rindex_in page level w (by omega) (by omega)

end Go.Proofs.YtgnoakidjnilpaaGreat
