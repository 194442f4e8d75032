/-
  The walk of the law PteSpoils: a half word that is no entry's spoils its table as a whole, and no other one: for every index, half word and entry the law returns true and nothing old turns.
-/
import Derived.Test.YtefjincghkdeiabPteTab
import Derived.Test.YtefjincghkdeiabPteHalf
import Derived.Test.YtefjincghkdeiabPteAwake
namespace Go.Proofs.Ytefjincghkdeiab
open Go.RowKit

theorem dec_no (x : Nat) (w : World) (hx : x < 65536) (h : decOk x = false) :
    Calls Try.prog 8 #[.int .u16 (x : Int)] w fun e w' => e = .returned (.tuple #[.agg #[.bool false, .bool false, .int .i64 0, .int .i64 0], .int .i64 20]) ∧ Fr none' w w' := by
  have := dec_any x w hx
  unfold dv dl dr df de at this
  rw [h] at this
  simpa using this

theorem new_two (w : World) :
    Calls Try.prog 5 #[.int .i64 2] w fun e w' => e = .returned (.tuple #[.pointer (some ⟨w.heap.size + 1, 0, none⟩), .int .i64 0]) ∧
      Fr none' w w' ∧ IsRam w' (w.heap.size + 1) w.heap.size 2 (List.replicate (64 * 2) 0) := new_any 2 w (by omega)

theorem store_two (w : World) (p bf : Nat) (bs : List UInt8) (i x : Nat) (h : IsRam w p bf 2 bs) (hi : i < 32) (hx : x < 65536) :
    Calls Try.prog 7 #[.pointer (some ⟨p, 0, none⟩), .int .i64 (2 * (i : Int)), .int .i64 2, .int .u32 (x : Int)] w fun e w' => e = .returned (.int .i64 0) ∧ Fr (at' bf) w w' ∧ IsRam w' p bf 2 (putAt bs (0 * 64 + i * 2) (bytesOf 2 x)) := by
  have := store_half w p bf 2 bs 0 i x h (by omega) hi hx
  rwa [show ((0 : Nat) : Int) * 64 + (i : Int) * 2 = 2 * (i : Int) by omega] at this

/-- A table all of whose half words are entries'. -/
theorem tab_fine (w : World) (p bf nf : Nat) (bs : List UInt8) (t : Nat) (h : IsRam w p bf nf bs) (ht : t < nf) (hg : ∀ j, j < 32 → decOk (half bs t j) = true) :
    Calls Try.prog 9 #[.pointer (some ⟨p, 0, none⟩), .int .i64 (t : Int)] w fun e w' => ∃ g cap, e = .returned (.tuple #[.slice (some ⟨g, 0, none⟩) 32 cap, .int .i64 0]) ∧ Fr none' w w' := by
  refine (tab_in w p bf nf bs t h ht).mono ?_
  rintro e w' ⟨f1, ⟨_, g, cap, he, h2, h3⟩ | ⟨⟨k, hk, hb⟩, _⟩⟩
  · exact ⟨g, cap, he, f1⟩
  · have := hg k hk
    rw [hb] at this; cases this

/-- A table one of whose half words is no entry's. -/
theorem tab_spoilt (w : World) (p bf nf : Nat) (bs : List UInt8) (t k : Nat) (h : IsRam w p bf nf bs) (ht : t < nf) (hk : k < 32) (hb : decOk (half bs t k) = false) :
    Calls Try.prog 9 #[.pointer (some ⟨p, 0, none⟩), .int .i64 (t : Int)] w fun e w' => e = .returned (.tuple #[.slice none 0 0, .int .i64 20]) ∧ Fr none' w w' := by
  refine (tab_in w p bf nf bs t h ht).mono ?_
  rintro e w' ⟨f1, ⟨hall, _⟩ | ⟨_, he⟩⟩
  · have := hall k hk
    rw [hb] at this; cases this
  · exact ⟨he, f1⟩

theorem table_fine {bs : List UInt8} {i x : Nat} (h : half bs 0 i = x ∧ ∀ j, j < 32 → j ≠ i → decOk (half bs 0 j) = true) (hd : decOk x = true) : ∀ j, j < 32 → decOk (half bs 0 j) = true := fun j hj => by
  by_cases e : j = i
  · subst e; rw [h.1]; exact hd
  · exact h.2 j hj e

theorem spoil_one {i : Nat} {v l : Bool} {r f : Int} {x : Nat} (hi : i < 32) (hx : x < 65536) :
    (half (putAt (putB (List.replicate (64 * 2) 0) 1 (31 - (i : Int)) 2 v l r f) (0 * 64 + i * 2) (bytesOf 2 x)) 0 i = x ∧ ∀ j, j < 32 → j ≠ i → decOk (half (putAt (putB (List.replicate (64 * 2) 0) 1 (31 - (i : Int)) 2 v l r f) (0 * 64 + i * 2) (bytesOf 2 x)) 0 j) = true) ∧
    ∀ j, j < 32 → decOk (half (putAt (putB (List.replicate (64 * 2) 0) 1 (31 - (i : Int)) 2 v l r f) (0 * 64 + i * 2) (bytesOf 2 x)) 1 j) = true := by
  have hg : Good (putB (List.replicate (64 * 2) 0) 1 (31 - (i : Int)) 2 v l r f) 2 := good_put (by simp) (good_zeros _ _)
  have hl : (putB (List.replicate (64 * 2) 0) 1 (31 - (i : Int)) 2 v l r f).length = 128 := by rw [length_putB]; simp
  refine ⟨⟨?_, fun j hj hn => ?_⟩, fun j hj => ?_⟩
  · rw [half_same _ 0 i x (by omega)]; omega
  · rw [half_other _ 0 i x 0 j hi hj (by omega) (fun e => hn e.2)]; exact hg 0 j (by omega) hj
  · rw [half_other _ 0 i x 1 j hi hj (by omega) (fun e => by omega)]; exact hg 1 j (by omega) hj

set_option maxRecDepth 100000 in
set_option maxHeartbeats 1000000 in
theorem spoils_lo (i : Int) (x : Nat) (v l : Bool) (r f : Int) (w : World) (hi : i < 0) :
    Calls Try.prog 3 #[.int .i64 i, .int .u16 (x : Int), .agg #[.bool v, .bool l, .int .i64 r, .int .i64 f]] w fun e w' => e = .returned (.bool true) ∧ Fr none' w w' := by
  have t1 : decide (i < 0) = true := by simpa using hi
  have f0 := (Fr.refl none' w).alloc (.cells (ebox v l r f) 24)
  have xb := row_alloc w (ebox v l r f) 24
  have z0 : (w.alloc (.cells (ebox v l r f) 24)).heap.size = w.heap.size + 1 := by simp
  unfold ebox at f0 z0
  go_enter Try.func3, Try.ntmps3
  go_wp2_with fail
  refine (awake_any _).mono ?_
  rintro e w1 ⟨rfl, f1⟩
  have z1 : w.heap.size + 1 ≤ w1.heap.size := by have := f1.size; omega
  replace xb := xb.keep f1 (fun h => h)
  replace f1 := f0.trans f1
  clear f0 z0
  go_wp2_with fail
  refine (new_two _).mono ?_
  rintro e w2 ⟨rfl, f2, r2⟩
  replace xb := xb.keep f2 (fun h => h)
  replace f2 := f1.trans f2
  clear f1
  go_wp2_with fail
  go_ret
  exact ⟨rfl, f2⟩

set_option maxRecDepth 100000 in
set_option maxHeartbeats 1000000 in
theorem spoils_hi (i : Int) (x : Nat) (v l : Bool) (r f : Int) (w : World) (hi : 31 < i) :
    Calls Try.prog 3 #[.int .i64 i, .int .u16 (x : Int), .agg #[.bool v, .bool l, .int .i64 r, .int .i64 f]] w fun e w' => e = .returned (.bool true) ∧ Fr none' w w' := by
  have t1 : decide (i < 0) = false := by simp; omega
  have t2 : decide (31 < i) = true := by simpa using hi
  have f0 := (Fr.refl none' w).alloc (.cells (ebox v l r f) 24)
  have xb := row_alloc w (ebox v l r f) 24
  have z0 : (w.alloc (.cells (ebox v l r f) 24)).heap.size = w.heap.size + 1 := by simp
  unfold ebox at f0 z0
  go_enter Try.func3, Try.ntmps3
  go_wp2_with fail
  refine (awake_any _).mono ?_
  rintro e w1 ⟨rfl, f1⟩
  have z1 : w.heap.size + 1 ≤ w1.heap.size := by have := f1.size; omega
  replace xb := xb.keep f1 (fun h => h)
  replace f1 := f0.trans f1
  clear f0 z0
  go_wp2_with fail
  refine (new_two _).mono ?_
  rintro e w2 ⟨rfl, f2, r2⟩
  replace xb := xb.keep f2 (fun h => h)
  replace f2 := f1.trans f2
  clear f1
  go_wp2_with fail
  go_ret
  exact ⟨rfl, f2⟩

set_option maxRecDepth 100000 in
set_option maxHeartbeats 2000000 in
theorem spoils_good (i x : Nat) (v l : Bool) (r f : Int) (w : World) (hi : i < 32) (hx : x < 65536) (hd : decOk x = true) :
    Calls Try.prog 3 #[.int .i64 (i : Int), .int .u16 (x : Int), .agg #[.bool v, .bool l, .int .i64 r, .int .i64 f]] w fun e w' => e = .returned (.bool true) ∧ Fr none' w w' := by
  have t1 : decide ((i : Int) < 0) = false := by simp
  have t2 : decide (31 < (i : Int)) = false := by simp; omega
  have HD : Hid (decOk x = true) := hd
  clear hd
  have f0 := (Fr.refl none' w).alloc (.cells (ebox v l r f) 24)
  have xb := row_alloc w (ebox v l r f) 24
  have z0 : (w.alloc (.cells (ebox v l r f) 24)).heap.size = w.heap.size + 1 := by simp
  unfold ebox at f0 z0
  go_enter Try.func3, Try.ntmps3
  go_wp2_with fail
  refine (awake_any _).mono ?_
  rintro e w1 ⟨rfl, f1⟩
  have z1 : w.heap.size + 1 ≤ w1.heap.size := by have := f1.size; omega
  replace xb := xb.keep f1 (fun h => h)
  replace f1 := f0.trans f1
  clear f0 z0
  go_wp2_with fail
  refine (new_two _).mono ?_
  rintro e w2 ⟨rfl, f2, r2⟩
  replace xb := xb.keep f2 (fun h => h)
  replace f2 := f1.trans f2
  clear f1
  obtain ⟨x0, x1, x2, x3⟩ := ebox_cells xb
  go_wp2_with fail
  refine (put_any _ _ _ _ _ _ _ _ _ _ _ r2).mono ?_
  rintro e w3 ⟨rfl, f3, r3⟩
  replace f3 := f2.newer f3 (by omega)
  clear f2 r2 xb x0 x1 x2 x3
  have HB := spoil_one (i := i) (v := v) (l := l) (r := r) (f := f) (x := x) hi hx
  generalize putB (List.replicate (64 * 2) 0) 1 (31 - (i : Int)) 2 v l r f = bs1 at *
  obtain ⟨HA, HC⟩ := HB
  replace HA : Hid (half (putAt bs1 (0 * 64 + i * 2) (bytesOf 2 x)) 0 i = x ∧ ∀ j, j < 32 → j ≠ i → decOk (half (putAt bs1 (0 * 64 + i * 2) (bytesOf 2 x)) 0 j) = true) := HA
  replace HC : Hid (∀ j, j < 32 → decOk (half (putAt bs1 (0 * 64 + i * 2) (bytesOf 2 x)) 1 j) = true) := HC
  go_wp2_with fail
  refine (store_two _ _ _ _ _ _ r3 hi hx).mono ?_
  rintro e w4 ⟨rfl, f4, r4⟩
  replace f4 := f3.newer f4 (by omega)
  clear f3 r3
  generalize putAt bs1 (0 * 64 + i * 2) (bytesOf 2 x) = bs2 at *
  go_wp2_with fail
  refine (dec_good _ _ hx HD).mono ?_
  rintro e w5 ⟨rfl, f5⟩
  have r5 := (r4.keep f5 (fun h => h) (fun h => h)).keep ((Fr.refl none' w5).alloc (.cells (ebox (pv x) (pl x) (pr x) (pf x)) 24)) (fun h => h) (fun h => h)
  replace f5 := (f4.trans f5).alloc (.cells (ebox (pv x) (pl x) (pr x) (pf x)) 24)
  unfold ebox at r5 f5
  clear f4 r4
  go_wp2_with fail
  refine (tab_fine _ _ _ _ _ 0 r5 (by omega) (table_fine HA.out HD.out)).mono ?_
  rintro e w6 ⟨g6, cap6, rfl, f6⟩
  have r6 := r5.keep f6 (fun h => h) (fun h => h)
  replace f6 := f5.trans f6
  clear f5 r5
  go_wp2_with fail
  refine (tab_fine _ _ _ _ _ 1 r6 (by omega) HC).mono ?_
  rintro e w7 ⟨g7, cap7, rfl, f7⟩
  replace f7 := f6.trans f7
  clear f6 r6
  go_wp2_with fail
  go_ret
  exact ⟨rfl, f7⟩

set_option maxRecDepth 100000 in
set_option maxHeartbeats 2000000 in
theorem spoils_bad (i x : Nat) (v l : Bool) (r f : Int) (w : World) (hi : i < 32) (hx : x < 65536) (hd : decOk x = false) :
    Calls Try.prog 3 #[.int .i64 (i : Int), .int .u16 (x : Int), .agg #[.bool v, .bool l, .int .i64 r, .int .i64 f]] w fun e w' => e = .returned (.bool true) ∧ Fr none' w w' := by
  have t1 : decide ((i : Int) < 0) = false := by simp
  have t2 : decide (31 < (i : Int)) = false := by simp; omega
  have HD : Hid (decOk x = false) := hd
  clear hd
  have f0 := (Fr.refl none' w).alloc (.cells (ebox v l r f) 24)
  have xb := row_alloc w (ebox v l r f) 24
  have z0 : (w.alloc (.cells (ebox v l r f) 24)).heap.size = w.heap.size + 1 := by simp
  unfold ebox at f0 z0
  go_enter Try.func3, Try.ntmps3
  go_wp2_with fail
  refine (awake_any _).mono ?_
  rintro e w1 ⟨rfl, f1⟩
  have z1 : w.heap.size + 1 ≤ w1.heap.size := by have := f1.size; omega
  replace xb := xb.keep f1 (fun h => h)
  replace f1 := f0.trans f1
  clear f0 z0
  go_wp2_with fail
  refine (new_two _).mono ?_
  rintro e w2 ⟨rfl, f2, r2⟩
  replace xb := xb.keep f2 (fun h => h)
  replace f2 := f1.trans f2
  clear f1
  obtain ⟨x0, x1, x2, x3⟩ := ebox_cells xb
  go_wp2_with fail
  refine (put_any _ _ _ _ _ _ _ _ _ _ _ r2).mono ?_
  rintro e w3 ⟨rfl, f3, r3⟩
  replace f3 := f2.newer f3 (by omega)
  clear f2 r2 xb x0 x1 x2 x3
  have HB := spoil_one (i := i) (v := v) (l := l) (r := r) (f := f) (x := x) hi hx
  generalize putB (List.replicate (64 * 2) 0) 1 (31 - (i : Int)) 2 v l r f = bs1 at *
  obtain ⟨HA, HC⟩ := HB
  replace HA : Hid (half (putAt bs1 (0 * 64 + i * 2) (bytesOf 2 x)) 0 i = x ∧ ∀ j, j < 32 → j ≠ i → decOk (half (putAt bs1 (0 * 64 + i * 2) (bytesOf 2 x)) 0 j) = true) := HA
  replace HC : Hid (∀ j, j < 32 → decOk (half (putAt bs1 (0 * 64 + i * 2) (bytesOf 2 x)) 1 j) = true) := HC
  go_wp2_with fail
  refine (store_two _ _ _ _ _ _ r3 hi hx).mono ?_
  rintro e w4 ⟨rfl, f4, r4⟩
  replace f4 := f3.newer f4 (by omega)
  clear f3 r3
  generalize putAt bs1 (0 * 64 + i * 2) (bytesOf 2 x) = bs2 at *
  go_wp2_with fail
  refine (dec_no _ _ hx HD).mono ?_
  rintro e w5 ⟨rfl, f5⟩
  have r5 := (r4.keep f5 (fun h => h) (fun h => h)).keep ((Fr.refl none' w5).alloc (.cells (ebox false false 0 0) 24)) (fun h => h) (fun h => h)
  replace f5 := (f4.trans f5).alloc (.cells (ebox false false 0 0) 24)
  unfold ebox at r5 f5
  clear f4 r4
  go_wp2_with fail
  refine (tab_spoilt _ _ _ _ _ 0 _ r5 (by omega) hi (by rw [HA.out.1]; exact HD)).mono ?_
  rintro e w6 ⟨rfl, f6⟩
  have r6 := r5.keep f6 (fun h => h) (fun h => h)
  replace f6 := f5.trans f6
  clear f5 r5
  go_wp2_with fail
  refine (tab_fine _ _ _ _ _ 1 r6 (by omega) HC).mono ?_
  rintro e w7 ⟨g7, cap7, rfl, f7⟩
  replace f7 := f6.trans f7
  clear f6 r6
  go_wp2_with fail
  go_ret
  exact ⟨rfl, f7⟩

theorem spoils_any (i : Int) (x : Int) (v l : Bool) (r f : Int) (w : World) (h0 : 0 ≤ x) (hx : x ≤ 65535) :
    Calls Try.prog 3 #[.int .i64 i, .int .u16 x, .agg #[.bool v, .bool l, .int .i64 r, .int .i64 f]] w fun e w' => e = .returned (.bool true) ∧ Below w.heap.size w w' := by
  obtain ⟨x, rfl⟩ := Int.eq_ofNat_of_zero_le h0
  have key : Calls Try.prog 3 #[.int .i64 i, .int .u16 (x : Int), .agg #[.bool v, .bool l, .int .i64 r, .int .i64 f]] w fun e w' => e = .returned (.bool true) ∧ Fr none' w w' := by
    by_cases a : i < 0
    · exact spoils_lo i x v l r f w a
    by_cases b : 31 < i
    · exact spoils_hi i x v l r f w b
    obtain ⟨i, rfl⟩ := Int.eq_ofNat_of_zero_le (show 0 ≤ i by omega)
    by_cases hd : decOk x = true
    · exact spoils_good i x v l r f w (by omega) (by omega) hd
    · exact spoils_bad i x v l r f w (by omega) (by omega) (by simpa using hd)
  exact key.mono fun e w' ⟨he, hf⟩ => ⟨he, hf.below (Nat.le_refl _) (fun k h => h.elim)⟩

end Go.Proofs.Ytefjincghkdeiab
