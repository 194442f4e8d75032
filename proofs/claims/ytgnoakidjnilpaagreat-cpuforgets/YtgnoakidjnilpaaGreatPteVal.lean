/-
  Contracts of package pte's bit, Encode, parts, Decode and Index over the translation, said of plain numbers. No statement is proved here.
-/
import Derived.Test.YtgnoakidjnilpaaGreatPteRight
import Derived.Laws.ResultCell
import Derived.Laws.Rows
namespace Go.Proofs.YtgnoakidjnilpaaGreat
open Go.RowKit

set_option maxHeartbeats 400000 in
theorem bit_true (w : World) : Calls Tryz.prog 124 #[.bool true] w fun e w' => e = .returned (.int .u16 1) ∧ w' = w := by
  go_enter Tryz.func124, Tryz.ntmps124
  go_wp2
  go_ret
  exact ⟨rfl, rfl⟩

set_option maxHeartbeats 400000 in
theorem bit_false (w : World) : Calls Tryz.prog 124 #[.bool false] w fun e w' => e = .returned (.int .u16 0) ∧ w' = w := by
  go_enter Tryz.func124, Tryz.ntmps124
  go_wp2
  go_ret
  exact ⟨rfl, rfl⟩

theorem size_ent : (Tryz.prog.info? 71).map (·.size) = some 4 := by kernel_rfl

/-- A result that lies in a cell. -/
theorem ret_cell {fn : Func} {p : Tmp} {tmps : Array Value} {g : Nat} {cs : Array Value} {w : World} (h : fn.results = #[.cell p 71]) (hp : tmps.getD p undef = .pointer (some ⟨g, 0, none⟩)) (hr : Row w g cs 71) (hs : cs.size = 4) :
    (results fn tmps).run Tryz.prog w = .ok (.agg cs) w :=
  results_cell_row h tmps w g _ cs (0, 0) _ hp hr Tryz.underlying71 rfl (by rw [hs]; exact size_ent)

theorem ret_cell_tmp {fn : Func} {p u : Tmp} {tmps : Array Value} {g : Nat} {cs : Array Value} {w : World} (h : fn.results = #[.cell p 71, .tmp u]) (hp : tmps.getD p undef = .pointer (some ⟨g, 0, none⟩)) (hr : Row w g cs 71) (hs : cs.size = 4) :
    (results fn tmps).run Tryz.prog w = .ok (.tuple #[.agg cs, tmps.getD u undef]) w := by
  rw [results_cell_tmp h, hp]
  simp only [asAddr, Sem.run_pure, Result.andThen]
  rw [run_loadVar_row w g _ 71 cs (0, 0) _ hr Tryz.underlying71 rfl (by rw [hs]; exact size_ent)]

theorem ret_u16e {a b c d : Int} (h : a = b) (h' : c = d) : Ending.returned (.tuple #[.int .u16 a, .int .i64 c]) = .returned (.tuple #[.int .u16 b, .int .i64 d]) := by rw [h, h']

/-- An entry's own box. -/
def ebox (v l : Bool) (r f : Int) : Array Value := #[.bool v, .bool l, .int .i64 r, .int .i64 f]

theorem ebox_cells {w : World} {b : Nat} {v l : Bool} {r f : Int} (h : Row w b (ebox v l r f) 71) :
    w.cell? ⟨b, 0, none⟩ = some (.bool v) ∧ w.cell? ⟨b, 1, none⟩ = some (.bool l) ∧ w.cell? ⟨b, 2, none⟩ = some (.int .i64 r) ∧ w.cell? ⟨b, 3, none⟩ = some (.int .i64 f) :=
  ⟨h.cell 0, h.cell 1, h.cell 2, h.cell 3⟩

set_option maxRecDepth 100000 in
set_option maxHeartbeats 400000 in
theorem enc_bad (v l : Bool) (r f : Int) (w : World) (h : rightE v l r f = false) :
    Calls Tryz.prog 71 #[.agg #[.bool v, .bool l, .int .i64 r, .int .i64 f]] w fun e w' => e = .returned (.tuple #[.int .u16 0, .int .i64 20]) ∧ Fr none' w w' := by
  have f0 := (Fr.refl none' w).alloc (.cells (ebox v l r f) 71)
  unfold ebox at f0
  go_enter Tryz.func71, Tryz.ntmps71
  go_wp2_with fail
  refine (right_any _ _ _ _ _).mono ?_
  rintro e w1 ⟨rfl, f1⟩
  rw [h]
  replace f1 := f0.trans f1
  go_wp2
  go_ret2
  exact ⟨rfl, f1⟩

set_option maxRecDepth 100000 in
set_option maxHeartbeats 400000 in
theorem enc_leaf (r f : Int) (w : World) (h1 : 0 ≤ r) (h2 : r ≤ 7) (h3 : 0 ≤ f) (h4 : f ≤ 1023) :
    Calls Tryz.prog 71 #[.agg #[.bool true, .bool true, .int .i64 r, .int .i64 f]] w fun e w' => e = .returned (.tuple #[.int .u16 (f * 64 + r * 4 + 3), .int .i64 0]) ∧ Fr none' w w' := by
  have f0 := (Fr.refl none' w).alloc (.cells (ebox true true r f) 71)
  have r0 := row_alloc w (ebox true true r f) 71
  have hr : rightE true true r f = true := by simp [rightE]; omega
  unfold ebox at f0
  go_enter Tryz.func71, Tryz.ntmps71
  go_wp2_with fail
  refine (right_any _ _ _ _ _).mono ?_
  rintro e w1 ⟨rfl, f1⟩
  rw [hr]
  obtain ⟨c0, c1, c2, c3⟩ := ebox_cells (r0.keep f1 (fun h => h))
  replace f1 := f0.trans f1
  clear f0 r0 hr
  go_wp2_with fail
  go_quiet (first | (go_at_call 124; refine Calls.quiet_of_same (bit_true _)) | (go_at_call 124; refine Calls.quiet_of_same (bit_false _)))
  go_wp2
  go_ret2
  refine ⟨ret_u16e ?_ rfl, f1.trans (fr_drewN _ _)⟩
  rw [show bits BinOp.or IntKind.u16 1 2 = ((3 : Nat) : Int) by decide]
  exact join_word r f 3 (by omega) h1 h2 h3 h4

set_option maxRecDepth 100000 in
set_option maxHeartbeats 400000 in
theorem enc_node (f : Int) (w : World) (h3 : 0 ≤ f) (h4 : f ≤ 1023) :
    Calls Tryz.prog 71 #[.agg #[.bool true, .bool false, .int .i64 0, .int .i64 f]] w fun e w' => e = .returned (.tuple #[.int .u16 (f * 64 + 1), .int .i64 0]) ∧ Fr none' w w' := by
  have f0 := (Fr.refl none' w).alloc (.cells (ebox true false 0 f) 71)
  have r0 := row_alloc w (ebox true false 0 f) 71
  have hr : rightE true false 0 f = true := by simp [rightE]; omega
  unfold ebox at f0
  go_enter Tryz.func71, Tryz.ntmps71
  go_wp2_with fail
  refine (right_any _ _ _ _ _).mono ?_
  rintro e w1 ⟨rfl, f1⟩
  rw [hr]
  obtain ⟨c0, c1, c2, c3⟩ := ebox_cells (r0.keep f1 (fun h => h))
  replace f1 := f0.trans f1
  clear f0 r0 hr
  go_wp2_with fail
  go_quiet (first | (go_at_call 124; refine Calls.quiet_of_same (bit_true _)) | (go_at_call 124; refine Calls.quiet_of_same (bit_false _)))
  go_wp2
  go_ret2
  refine ⟨ret_u16e ?_ rfl, f1.trans (fr_drewN _ _)⟩
  have := join_word 0 f 1 (by omega) (by omega) (by omega) h3 h4
  rw [show bits BinOp.or IntKind.u16 1 0 = 1 by decide]
  simpa using this

set_option maxRecDepth 100000 in
set_option maxHeartbeats 400000 in
theorem enc_none (w : World) :
    Calls Tryz.prog 71 #[.agg #[.bool false, .bool false, .int .i64 0, .int .i64 0]] w fun e w' => e = .returned (.tuple #[.int .u16 (0), .int .i64 0]) ∧ Fr none' w w' := by
  have f0 := (Fr.refl none' w).alloc (.cells (ebox false false 0 0) 71)
  have r0 := row_alloc w (ebox false false 0 0) 71
  have hr : rightE false false 0 0 = true := rfl
  unfold ebox at f0
  go_enter Tryz.func71, Tryz.ntmps71
  go_wp2_with fail
  refine (right_any _ _ _ _ _).mono ?_
  rintro e w1 ⟨rfl, f1⟩
  rw [hr]
  obtain ⟨c0, c1, c2, c3⟩ := ebox_cells (r0.keep f1 (fun h => h))
  replace f1 := f0.trans f1
  clear f0 r0 hr
  go_wp2_with fail
  go_quiet (first | (go_at_call 124; refine Calls.quiet_of_same (bit_true _)) | (go_at_call 124; refine Calls.quiet_of_same (bit_false _)))
  go_wp2
  go_ret2
  refine ⟨ret_u16e (by decide) rfl, f1.trans (fr_drewN _ _)⟩

set_option maxHeartbeats 400000 in
theorem parts_any (x : Nat) (w : World) (hx : x < 65536) :
    Calls Tryz.prog 187 #[.int .u16 (x : Int)] w fun e w' => e = .returned (.agg #[.bool (pv x), .bool (pl x), .int .i64 (pr x), .int .i64 (pf x)]) ∧ Fr none' w w' := by
  have b1 : bits .and .u16 (x : Int) 1 = (x : Int) % 2 := by rw [and16_1 x hx]; omega
  have b2 : bits .and .u16 ((x : Int) / 2) 1 = (x : Int) / 2 % 2 := by
    have := and16_1 (x / 2) (by omega)
    rw [show ((x / 2 : Nat) : Int) = (x : Int) / 2 by omega] at this
    rw [this]; omega
  have b3 : bits .and .u16 ((x : Int) / 4) 7 = (x : Int) / 4 % 8 := by
    have := and16_7 (x / 4) (by omega)
    rw [show ((x / 4 : Nat) : Int) = (x : Int) / 4 by omega] at this
    rw [this]; omega
  go_enter Tryz.func187, Tryz.ntmps187
  go_wp2
  refine bodyPost_ret (ret_cell rfl rfl (row_alloc _ _ _) rfl) rfl ?_
  exact ⟨rfl, (Fr.refl _ _).alloc _⟩

theorem enc_ok (v l : Bool) (r f : Int) (w : World) (h : rightE v l r f = true) :
    Calls Tryz.prog 71 #[.agg #[.bool v, .bool l, .int .i64 r, .int .i64 f]] w fun e w' => e = .returned (.tuple #[.int .u16 (wordE v l r f), .int .i64 0]) ∧ Fr none' w w' := by
  rcases right_cases h with ⟨rfl, rfl, rfl, rfl⟩ | ⟨rfl, rfl, rfl, h1, h2⟩ | ⟨rfl, rfl, h1, h2, h3, h4⟩
  · exact enc_none w
  · rw [show wordE true false 0 f = f * 64 + 1 by simp [wordE]]; exact enc_node f w h1 h2
  · rw [show wordE true true r f = f * 64 + r * 4 + 3 by simp [wordE]; omega]; exact enc_leaf r f w h1 h2 h3 h4

theorem enc_any (v l : Bool) (r f : Int) (w : World) :
    Calls Tryz.prog 71 #[.agg #[.bool v, .bool l, .int .i64 r, .int .i64 f]] w fun e w' => e = .returned (.tuple #[.int .u16 (encW v l r f), .int .i64 (encE v l r f)]) ∧ Fr none' w w' := by
  unfold encW encE
  by_cases h : rightE v l r f = true
  · rw [if_pos h, if_pos h]; exact enc_ok v l r f w h
  · rw [if_neg h, if_neg h]; exact enc_bad v l r f w (by simpa using h)

theorem enc_parts (x : Nat) (w : World) (h : decOk x = true) :
    Calls Tryz.prog 71 #[.agg #[.bool (pv x), .bool (pl x), .int .i64 (pr x), .int .i64 (pf x)]] w fun e w' => e = .returned (.tuple #[.int .u16 (x : Int), .int .i64 0]) ∧ Fr none' w w' := by
  have := enc_ok (pv x) (pl x) (pr x) (pf x) w (ok_right h)
  rwa [word_parts h] at this

theorem ebox_frozen {w : World} {b : Nat} {cs : Array Value} {t : TypeId} (h : Row w b cs t) :
    w.frozen? ⟨b, 0, none⟩ = false ∧ w.frozen? ⟨b, 1, none⟩ = false ∧ w.frozen? ⟨b, 2, none⟩ = false ∧ w.frozen? ⟨b, 3, none⟩ = false :=
  ⟨h.frozen 0, h.frozen 1, h.frozen 2, h.frozen 3⟩

theorem ebox_set {w : World} {b : Nat} {v l v' l' : Bool} {r f r' f' : Int} {t : TypeId} (h : Row w b (ebox v l r f) t) :
    Row ((((w.setCell ⟨b, 0, none⟩ (.bool v')).setCell ⟨b, 1, none⟩ (.bool l')).setCell ⟨b, 2, none⟩ (.int .i64 r')).setCell ⟨b, 3, none⟩ (.int .i64 f')) b (ebox v' l' r' f') t :=
  (((h.setCell 0 _).setCell 1 _).setCell 2 _).setCell 3 _

theorem ebox_fr {S : Nat → Prop} {w w1 : World} {b : Nat} {v' l' : Bool} {r' f' : Int} (h : Fr S w w1) (hb : w.heap.size ≤ b ∨ S b) :
    Fr S w ((((w1.setCell ⟨b, 0, none⟩ (.bool v')).setCell ⟨b, 1, none⟩ (.bool l')).setCell ⟨b, 2, none⟩ (.int .i64 r')).setCell ⟨b, 3, none⟩ (.int .i64 f')) :=
  (((h.setCell (p := ⟨b, 0, none⟩) hb _).setCell (p := ⟨b, 1, none⟩) hb _).setCell (p := ⟨b, 2, none⟩) hb _).setCell (p := ⟨b, 3, none⟩) hb _

set_option maxHeartbeats 400000 in
theorem dec_good (x : Nat) (w : World) (hx : x < 65536) (h : decOk x = true) :
    Calls Tryz.prog 177 #[.int .u16 (x : Int)] w fun e w' => e = .returned (.tuple #[.agg #[.bool (pv x), .bool (pl x), .int .i64 (pr x), .int .i64 (pf x)], .int .i64 0]) ∧ Fr none' w w' := by
  have f0 := (Fr.refl none' w).alloc (.cells (ebox false false 0 0) 71)
  have r0 := row_alloc w (ebox false false 0 0) 71
  unfold ebox at f0
  go_enter Tryz.func177, Tryz.ntmps177
  go_wp2_with fail
  refine (parts_any _ _ hx).mono ?_
  rintro e w1 ⟨rfl, f1⟩
  have r1 := (r0.keep f1 (fun h => h)).alloc (.cells (ebox (pv x) (pl x) (pr x) (pf x)) 71)
  have q1 := row_alloc w1 (ebox (pv x) (pl x) (pr x) (pf x)) 71
  replace f1 := (f0.trans f1).alloc (.cells (ebox (pv x) (pl x) (pr x) (pf x)) 71)
  unfold ebox at f1
  clear f0 r0
  go_wp2_with fail
  refine (enc_parts _ _ h).mono ?_
  rintro e w2 ⟨rfl, f2⟩
  have r2 := r1.keep f2 (fun h => h)
  have q2 := q1.keep f2 (fun h => h)
  replace f2 := f1.trans f2
  clear r1 q1 f1
  obtain ⟨c0, c1, c2, c3⟩ := ebox_cells r2
  obtain ⟨k0, k1, k2, k3⟩ := ebox_frozen r2
  obtain ⟨d0, d1, d2, d3⟩ := ebox_cells q2
  go_wp2_with fail
  refine bodyPost_ret (ret_cell_tmp rfl rfl (ebox_set r2) rfl) rfl ?_
  exact ⟨rfl, ebox_fr f2 (Or.inl (Nat.le_refl _))⟩

set_option maxHeartbeats 400000 in
theorem dec_bad1 (x : Nat) (w : World) (hx : x < 65536) (h : rightE (pv x) (pl x) (pr x) (pf x) = false) :
    Calls Tryz.prog 177 #[.int .u16 (x : Int)] w fun e w' => e = .returned (.tuple #[.agg #[.bool false, .bool false, .int .i64 0, .int .i64 0], .int .i64 20]) ∧ Fr none' w w' := by
  have f0 := (Fr.refl none' w).alloc (.cells (ebox false false 0 0) 71)
  have r0 := row_alloc w (ebox false false 0 0) 71
  unfold ebox at f0
  go_enter Tryz.func177, Tryz.ntmps177
  go_wp2_with fail
  refine (parts_any _ _ hx).mono ?_
  rintro e w1 ⟨rfl, f1⟩
  have r1 := (r0.keep f1 (fun h => h)).alloc (.cells (ebox (pv x) (pl x) (pr x) (pf x)) 71)
  have q1 := row_alloc w1 (ebox (pv x) (pl x) (pr x) (pf x)) 71
  replace f1 := (f0.trans f1).alloc (.cells (ebox (pv x) (pl x) (pr x) (pf x)) 71)
  unfold ebox at f1
  clear f0 r0
  go_wp2_with fail
  refine (enc_bad _ _ _ _ _ h).mono ?_
  rintro e w2 ⟨rfl, f2⟩
  have r2 := r1.keep f2 (fun h => h)
  have q2 := q1.keep f2 (fun h => h)
  replace f2 := f1.trans f2
  clear r1 q1 f1
  obtain ⟨c0, c1, c2, c3⟩ := ebox_cells r2
  obtain ⟨k0, k1, k2, k3⟩ := ebox_frozen r2
  obtain ⟨d0, d1, d2, d3⟩ := ebox_cells q2
  go_wp2_with fail
  refine bodyPost_ret (ret_cell_tmp rfl rfl (ebox_set r2) rfl) rfl ?_
  exact ⟨rfl, ebox_fr f2 (Or.inl (Nat.le_refl _))⟩

set_option maxHeartbeats 400000 in
theorem dec_bad2 (x : Nat) (w : World) (hx : x < 65536) (h : rightE (pv x) (pl x) (pr x) (pf x) = true) (hn : wordE (pv x) (pl x) (pr x) (pf x) ≠ (x : Int)) :
    Calls Tryz.prog 177 #[.int .u16 (x : Int)] w fun e w' => e = .returned (.tuple #[.agg #[.bool false, .bool false, .int .i64 0, .int .i64 0], .int .i64 20]) ∧ Fr none' w w' := by
  have f0 := (Fr.refl none' w).alloc (.cells (ebox false false 0 0) 71)
  have r0 := row_alloc w (ebox false false 0 0) 71
  unfold ebox at f0
  have t1 : (wordE (pv x) (pl x) (pr x) (pf x) != (x : Int)) = true := by simpa using hn
  go_enter Tryz.func177, Tryz.ntmps177
  go_wp2_with fail
  refine (parts_any _ _ hx).mono ?_
  rintro e w1 ⟨rfl, f1⟩
  have r1 := (r0.keep f1 (fun h => h)).alloc (.cells (ebox (pv x) (pl x) (pr x) (pf x)) 71)
  have q1 := row_alloc w1 (ebox (pv x) (pl x) (pr x) (pf x)) 71
  replace f1 := (f0.trans f1).alloc (.cells (ebox (pv x) (pl x) (pr x) (pf x)) 71)
  unfold ebox at f1
  clear f0 r0
  go_wp2_with fail
  refine (enc_ok _ _ _ _ _ h).mono ?_
  rintro e w2 ⟨rfl, f2⟩
  have r2 := r1.keep f2 (fun h => h)
  have q2 := q1.keep f2 (fun h => h)
  replace f2 := f1.trans f2
  clear r1 q1 f1
  obtain ⟨c0, c1, c2, c3⟩ := ebox_cells r2
  obtain ⟨k0, k1, k2, k3⟩ := ebox_frozen r2
  obtain ⟨d0, d1, d2, d3⟩ := ebox_cells q2
  go_wp2_with fail
  refine bodyPost_ret (ret_cell_tmp rfl rfl (ebox_set r2) rfl) rfl ?_
  exact ⟨rfl, ebox_fr f2 (Or.inl (Nat.le_refl _))⟩

/-- Decode, whatever word. -/
theorem dec_any (x : Nat) (w : World) (hx : x < 65536) :
    Calls Tryz.prog 177 #[.int .u16 (x : Int)] w fun e w' => e = .returned (.tuple #[.agg #[.bool (dv x), .bool (dl x), .int .i64 (dr x), .int .i64 (df x)], .int .i64 (de x)]) ∧ Fr none' w w' := by
  unfold dv dl dr df de
  by_cases h : decOk x = true
  · rw [h]; simpa using dec_good x w hx h
  · have h' : decOk x = false := by simpa using h
    rw [h']
    simp only [Bool.false_and, Bool.false_eq_true, if_false]
    by_cases hr : rightE (pv x) (pl x) (pr x) (pf x) = true
    · exact dec_bad2 x w hx hr (bad_word h' hr)
    · exact dec_bad1 x w hx (by simpa using hr)

theorem dec_int (x : Int) (w : World) (h0 : 0 ≤ x) (hx : x ≤ 65535) :
    Calls Tryz.prog 177 #[.int .u16 x] w fun e w' => e = .returned (.tuple #[.agg #[.bool (dv x), .bool (dl x), .int .i64 (dr x), .int .i64 (df x)], .int .i64 (de x)]) ∧ Fr none' w w' := by
  obtain ⟨n, rfl⟩ := Int.eq_ofNat_of_zero_le h0
  exact dec_any n w (by omega)

set_option maxHeartbeats 400000 in
theorem index_out (page level : Int) (w : World) (h : page < 0 ∨ 1023 < page) :
    Calls Tryz.prog 157 #[.int .i64 page, .int .i64 level] w fun e w' => e = .returned (.int .i64 0) ∧ w = w' := by
  by_cases h0 : page < 0
  · have t1 : decide (page < 0) = true := by simpa using h0
    clear h h0
    go_enter Tryz.func157, Tryz.ntmps157
    go_wp2
    go_ret
    exact ⟨rfl, rfl⟩
  · have t1 : decide (page < 0) = false := by simpa using h0
    have t2 : decide (1024 ≤ page) = true := by simp; omega
    clear h h0
    go_enter Tryz.func157, Tryz.ntmps157
    go_wp2
    go_ret
    exact ⟨rfl, rfl⟩

set_option maxHeartbeats 400000 in
theorem index_in (page level : Int) (w : World) (h0 : 0 ≤ page) (h1 : page ≤ 1023) :
    Calls Tryz.prog 157 #[.int .i64 page, .int .i64 level] w fun e w' => e = .returned (.int .i64 (if level = 0 then page / 32 else if level = 1 then page % 32 else 0)) ∧ w = w' := by
  have t1 : decide (page < 0) = false := by simpa using h0
  have t2 : decide (1024 ≤ page) = false := by simp; omega
  by_cases l0 : level = 0
  · subst l0
    rw [if_pos rfl]
    go_enter Tryz.func157, Tryz.ntmps157
    go_wp2
    go_ret
    exact ⟨rfl, rfl⟩
  by_cases l1 : level = 1
  · subst l1
    rw [if_neg l0, if_pos rfl]
    go_enter Tryz.func157, Tryz.ntmps157
    go_wp2
    go_ret
    exact ⟨rfl, rfl⟩
  · rw [if_neg l0, if_neg l1]
    have t3 : (level == 0) = false := by simpa using l0
    have t4 : (level == 1) = false := by simpa using l1
    clear l0 l1
    go_enter Tryz.func157, Tryz.ntmps157
    go_wp2
    go_ret
    exact ⟨rfl, rfl⟩

/-- What Index answers. -/
def idxOf (page level : Int) : Int := if page < 0 ∨ 1023 < page then 0 else if level = 0 then page / 32 else if level = 1 then page % 32 else 0

theorem index_any (page level : Int) (w : World) : Calls Tryz.prog 157 #[.int .i64 page, .int .i64 level] w fun e w' => e = .returned (.int .i64 (idxOf page level)) ∧ w = w' := by
  unfold idxOf
  by_cases h : page < 0 ∨ 1023 < page
  · rw [if_pos h]; exact index_out page level w h
  · rw [if_neg h]; exact index_in page level w (by omega) (by omega)

end Go.Proofs.YtgnoakidjnilpaaGreat
