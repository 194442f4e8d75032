/-
  Contracts of package pte's place, Get and Put over the translation, said of the memory's bytes. No statement is proved here.
-/
import Derived.Test.YtgnoakidjnilpaaGreatPteVal
import Derived.Test.YtgnoakidjnilpaaGreatFrames
namespace Go.Proofs.YtgnoakidjnilpaaGreat
open Go.RowKit

/-- What is wrong with a table's number and an index. -/
def placeE (t i : Int) (nf : Nat) : Int := if i < 0 ∨ 31 < i then 1 else if t < 0 ∨ (nf : Int) ≤ t then 10 else 0

/-- The i-th half word of a table. -/
def half (bs : List UInt8) (t i : Nat) : Nat := numOf ((bs.drop (t * 64 + i * 2)).take 2)

theorem numOf_lt : ∀ l : List UInt8, numOf l < 256 ^ l.length
  | [] => by simp [numOf]
  | x :: r => by
    have h1 := numOf_lt r
    have h2 := UInt8.toNat_lt x
    simp only [numOf, List.length_cons, Nat.pow_succ]
    omega

theorem half_lt (bs : List UInt8) (t i : Nat) : half bs t i < 65536 := by
  have h1 := numOf_lt ((bs.drop (t * 64 + i * 2)).take 2)
  have h2 : ((bs.drop (t * 64 + i * 2)).take 2).length ≤ 2 := by simp; omega
  have h3 : 256 ^ ((bs.drop (t * 64 + i * 2)).take 2).length ≤ 256 ^ 2 := Nat.pow_le_pow_right (by omega) h2
  unfold half
  omega

theorem errOf_half (t i nf : Nat) (ht : t < nf) (hi : i < 32) : errOf ((t * 64 + i * 2 : Nat) : Int) 2 nf = 0 := by
  refine err_none (by omega) ?_ (by omega)
  rw [Int.tmod_eq_emod_of_nonneg (by omega)]; omega

theorem place_cases {t i : Int} {nf : Nat} (h : placeE t i nf = 0) : ∃ a b : Nat, t = a ∧ i = b ∧ a < nf ∧ b < 32 := by
  unfold placeE at h
  by_cases h1 : i < 0 ∨ 31 < i
  · rw [if_pos h1] at h; omega
  · rw [if_neg h1] at h
    by_cases h2 : t < 0 ∨ (nf : Int) ≤ t
    · rw [if_pos h2] at h; omega
    · exact ⟨t.toNat, i.toNat, by omega, by omega, by omega, by omega⟩

theorem place_zero (t i nf : Nat) (ht : t < nf) (hi : i < 32) : placeE t i nf = 0 := by
  unfold placeE; rw [if_neg (by omega), if_neg (by omega)]

set_option maxHeartbeats 400000 in
theorem pplace_ok (w : World) (p bf nf : Nat) (bs : List UInt8) (t i : Nat) (h : IsRam w p bf nf bs) (ht : t < nf) (hi : i < 32) :
    Calls Tryz.prog 70 #[.pointer (some ⟨p, 0, none⟩), .int .i64 (t : Int), .int .i64 (i : Int)] w fun e w' => e = .returned (.tuple #[.int .i64 ((t : Int) * 64 + (i : Int) * 2), .int .i64 0]) ∧ w = w' := by
  have hm := h.most
  have t1 : decide ((i : Int) < 0) = false := by simp
  have t2 : decide (32 ≤ (i : Int)) = false := by simp; omega
  have t3 : decide ((t : Int) < 0) = false := by simp
  have t4 : decide ((nf : Int) ≤ (t : Int)) = false := by simp; omega
  go_enter Tryz.func70, Tryz.ntmps70
  go_wp2_with (go_at_call 122; refine (frames_any _ _ _ _ _ h).mono ?_; rintro e w' ⟨rfl, rfl⟩)
  go_ret2
  exact ⟨rfl, rfl⟩

set_option maxHeartbeats 400000 in
theorem pplace_bad (w : World) (p bf nf : Nat) (bs : List UInt8) (t i : Int) (h : IsRam w p bf nf bs) (he : placeE t i nf ≠ 0) :
    Calls Tryz.prog 70 #[.pointer (some ⟨p, 0, none⟩), .int .i64 t, .int .i64 i] w fun e w' => e = .returned (.tuple #[.int .i64 0, .int .i64 (placeE t i nf)]) ∧ w = w' := by
  unfold placeE at he ⊢
  by_cases a : i < 0
  · have t1 : decide (i < 0) = true := by simpa using a
    rw [if_pos (Or.inl a)]
    clear he a
    go_enter Tryz.func70, Tryz.ntmps70
    go_wp2
    go_ret2
    exact ⟨rfl, rfl⟩
  by_cases b : 31 < i
  · have t1 : decide (i < 0) = false := by simpa using a
    have t2 : decide (32 ≤ i) = true := by simp; omega
    rw [if_pos (Or.inr b)]
    clear he a b
    go_enter Tryz.func70, Tryz.ntmps70
    go_wp2
    go_ret2
    exact ⟨rfl, rfl⟩
  have t1 : decide (i < 0) = false := by simpa using a
  have t2 : decide (32 ≤ i) = false := by simp; omega
  rw [if_neg (by omega)] at he ⊢
  clear a b
  by_cases c : t < 0
  · have t3 : decide (t < 0) = true := by simpa using c
    rw [if_pos (Or.inl c)]
    clear he c
    go_enter Tryz.func70, Tryz.ntmps70
    go_wp2
    go_ret2
    exact ⟨rfl, rfl⟩
  by_cases d : (nf : Int) ≤ t
  · have t3 : decide (t < 0) = false := by simpa using c
    have t4 : decide ((nf : Int) ≤ t) = true := by simpa using d
    rw [if_pos (Or.inr d)]
    clear he c d
    go_enter Tryz.func70, Tryz.ntmps70
    go_wp2_with (go_at_call 122; refine (frames_any _ _ _ _ _ h).mono ?_; rintro e w' ⟨rfl, rfl⟩)
    go_ret2
    exact ⟨rfl, rfl⟩
  · rw [if_neg (by omega)] at he; omega

theorem load_half (w : World) (p bf nf : Nat) (bs : List UInt8) (t i : Nat) (h : IsRam w p bf nf bs) (ht : t < nf) (hi : i < 32) :
    Calls Tryz.prog 127 #[.pointer (some ⟨p, 0, none⟩), .int .i64 ((t : Int) * 64 + (i : Int) * 2), .int .i64 2] w fun e w' => e = .returned (.tuple #[.int .u32 ((half bs t i : Nat) : Int), .int .i64 0]) ∧ w' = w := by
  have hm := h.most
  have e0 := errOf_half t i nf ht hi
  have := load_any w p bf nf bs ((t * 64 + i * 2 : Nat) : Int) 2 h (by omega)
  rw [loadV, if_pos e0, e0, Int.toNat_natCast, show (2 : Int).toNat = 2 from rfl] at this
  rw [show (t : Int) * 64 + (i : Int) * 2 = ((t * 64 + i * 2 : Nat) : Int) by omega]
  exact this

theorem store_half (w : World) (p bf nf : Nat) (bs : List UInt8) (t i v : Nat) (h : IsRam w p bf nf bs) (ht : t < nf) (hi : i < 32) (hv : v < 65536) :
    Calls Tryz.prog 28 #[.pointer (some ⟨p, 0, none⟩), .int .i64 ((t : Int) * 64 + (i : Int) * 2), .int .i64 2, .int .u32 (v : Int)] w fun e w' => e = .returned (.int .i64 0) ∧ Fr (at' bf) w w' ∧ IsRam w' p bf nf (putAt bs (t * 64 + i * 2) (bytesOf 2 v)) := by
  have hm := h.most
  have e0 := errOf_half t i nf ht hi
  have := store_any w p bf nf bs ((t * 64 + i * 2 : Nat) : Int) 2 v h (by omega) (by omega)
  rw [storeB, if_pos e0, e0, Int.toNat_natCast, show (2 : Int).toNat = 2 from rfl] at this
  rw [show (t : Int) * 64 + (i : Int) * 2 = ((t * 64 + i * 2 : Nat) : Int) by omega]
  exact this

set_option maxHeartbeats 400000 in
theorem get_ok (w : World) (p bf nf : Nat) (bs : List UInt8) (t i : Nat) (h : IsRam w p bf nf bs) (ht : t < nf) (hi : i < 32) :
    Calls Tryz.prog 156 #[.pointer (some ⟨p, 0, none⟩), .int .i64 (t : Int), .int .i64 (i : Int)] w fun e w' =>
      e = .returned (.tuple #[.agg #[.bool (dv (half bs t i)), .bool (dl (half bs t i)), .int .i64 (dr (half bs t i)), .int .i64 (df (half bs t i))], .int .i64 (de (half bs t i))]) ∧ Fr none' w w' := by
  have f0 := (Fr.refl none' w).alloc (.cells (ebox false false 0 0) 71)
  have r0 := row_alloc w (ebox false false 0 0) 71
  have h0 := h.keep f0 (fun h => h) (fun h => h)
  have hl := half_lt bs t i
  unfold ebox at f0 h0
  go_enter Tryz.func156, Tryz.ntmps156
  go_wp2_with fail
  refine (pplace_ok _ _ _ _ _ _ _ h0 ht hi).mono ?_
  rintro e w1 ⟨rfl, rfl⟩
  go_wp2_with fail
  refine (load_half _ _ _ _ _ _ _ h0 ht hi).mono ?_
  rintro e w1 ⟨rfl, rfl⟩
  go_wp2_with fail
  refine (dec_any _ _ hl).mono ?_
  rintro e w2 ⟨rfl, f2⟩
  have r2 := r0.keep f2 (fun h => h)
  replace f2 := f0.trans f2
  clear r0 f0 h0
  obtain ⟨c0, c1, c2, c3⟩ := ebox_cells r2
  obtain ⟨k0, k1, k2, k3⟩ := ebox_frozen r2
  go_wp2_with fail
  refine bodyPost_ret (ret_cell_tmp rfl rfl (ebox_set r2) rfl) rfl ?_
  exact ⟨rfl, ebox_fr f2 (Or.inl (Nat.le_refl _))⟩

set_option maxHeartbeats 400000 in
theorem get_bad (w : World) (p bf nf : Nat) (bs : List UInt8) (t i : Int) (h : IsRam w p bf nf bs) (he : placeE t i nf ≠ 0) :
    Calls Tryz.prog 156 #[.pointer (some ⟨p, 0, none⟩), .int .i64 t, .int .i64 i] w fun e w' =>
      e = .returned (.tuple #[.agg #[.bool false, .bool false, .int .i64 0, .int .i64 0], .int .i64 (placeE t i nf)]) ∧ Fr none' w w' := by
  have f0 := (Fr.refl none' w).alloc (.cells (ebox false false 0 0) 71)
  have r0 := row_alloc w (ebox false false 0 0) 71
  have h0 := h.keep f0 (fun h => h) (fun h => h)
  have hb : (placeE t i nf != 0) = true := by simpa using he
  have HE : Hid (placeE t i nf ≠ 0) := he
  clear he
  unfold ebox at f0 h0 r0
  go_enter Tryz.func156, Tryz.ntmps156
  go_wp2_with fail
  refine (pplace_bad _ _ _ _ _ _ _ h0 HE).mono ?_
  rintro e w1 ⟨rfl, rfl⟩
  go_wp2_with fail
  refine bodyPost_ret (ret_cell_tmp rfl rfl r0 rfl) rfl ?_
  exact ⟨rfl, f0⟩

/-- What Put answers, and the bytes behind it. -/
def putE (t i : Int) (nf : Nat) (v l : Bool) (r f : Int) : Int := if placeE t i nf = 0 then encE v l r f else placeE t i nf
def putB (bs : List UInt8) (t i : Int) (nf : Nat) (v l : Bool) (r f : Int) : List UInt8 :=
  if placeE t i nf = 0 ∧ rightE v l r f = true then putAt bs (t.toNat * 64 + i.toNat * 2) (bytesOf 2 (wordE v l r f).toNat) else bs

set_option maxHeartbeats 400000 in
theorem put_bad (w : World) (p bf nf : Nat) (bs : List UInt8) (t i : Int) (v l : Bool) (r f : Int) (h : IsRam w p bf nf bs) (he : placeE t i nf ≠ 0) :
    Calls Tryz.prog 32 #[.pointer (some ⟨p, 0, none⟩), .int .i64 t, .int .i64 i, .agg #[.bool v, .bool l, .int .i64 r, .int .i64 f]] w fun e w' => e = .returned (.int .i64 (placeE t i nf)) ∧ Fr none' w w' := by
  have f0 := (Fr.refl none' w).alloc (.cells (ebox v l r f) 71)
  have h0 := h.keep f0 (fun h => h) (fun h => h)
  have hb : (placeE t i nf != 0) = true := by simpa using he
  have HE : Hid (placeE t i nf ≠ 0) := he
  clear he
  unfold ebox at f0 h0
  go_enter Tryz.func32, Tryz.ntmps32
  go_wp2_with fail
  refine (pplace_bad _ _ _ _ _ _ _ h0 HE).mono ?_
  rintro e w1 ⟨rfl, rfl⟩
  go_wp2_with fail
  go_ret
  exact ⟨rfl, f0⟩

set_option maxHeartbeats 400000 in
theorem put_wrong (w : World) (p bf nf : Nat) (bs : List UInt8) (t i : Nat) (v l : Bool) (r f : Int) (h : IsRam w p bf nf bs) (ht : t < nf) (hi : i < 32) (hr : rightE v l r f = false) :
    Calls Tryz.prog 32 #[.pointer (some ⟨p, 0, none⟩), .int .i64 (t : Int), .int .i64 (i : Int), .agg #[.bool v, .bool l, .int .i64 r, .int .i64 f]] w fun e w' => e = .returned (.int .i64 20) ∧ Fr none' w w' := by
  have f0 := (Fr.refl none' w).alloc (.cells (ebox v l r f) 71)
  have h0 := h.keep f0 (fun h => h) (fun h => h)
  unfold ebox at f0 h0
  go_enter Tryz.func32, Tryz.ntmps32
  go_wp2_with fail
  refine (pplace_ok _ _ _ _ _ _ _ h0 ht hi).mono ?_
  rintro e w1 ⟨rfl, rfl⟩
  go_wp2_with fail
  refine (enc_bad _ _ _ _ _ hr).mono ?_
  rintro e w2 ⟨rfl, f2⟩
  replace f2 := f0.trans f2
  clear f0 h0
  go_wp2_with fail
  go_ret
  exact ⟨rfl, f2⟩

set_option maxHeartbeats 400000 in
theorem put_ok (w : World) (p bf nf : Nat) (bs : List UInt8) (t i x : Nat) (v l : Bool) (r f : Int) (h : IsRam w p bf nf bs) (ht : t < nf) (hi : i < 32) (hr : rightE v l r f = true) (hx : wordE v l r f = (x : Int)) (hx' : x < 65536) :
    Calls Tryz.prog 32 #[.pointer (some ⟨p, 0, none⟩), .int .i64 (t : Int), .int .i64 (i : Int), .agg #[.bool v, .bool l, .int .i64 r, .int .i64 f]] w fun e w' => e = .returned (.int .i64 0) ∧ Fr (at' bf) w w' ∧ IsRam w' p bf nf (putAt bs (t * 64 + i * 2) (bytesOf 2 x)) := by
  have f0 := (Fr.refl none' w).alloc (.cells (ebox v l r f) 71)
  have h0 := h.keep f0 (fun h => h) (fun h => h)
  have HX : Hid (wordE v l r f = (x : Int)) := hx
  clear hx
  unfold ebox at f0 h0
  go_enter Tryz.func32, Tryz.ntmps32
  go_wp2_with fail
  refine (pplace_ok _ _ _ _ _ _ _ h0 ht hi).mono ?_
  rintro e w1 ⟨rfl, rfl⟩
  go_wp2_with fail
  refine (enc_ok _ _ _ _ _ hr).mono ?_
  rintro e w2 ⟨rfl, f2⟩
  rw [HX.out]
  have h2 := h0.keep f2 (fun h => h) (fun h => h)
  replace f2 := f0.trans f2
  clear f0 h0
  go_wp2_with fail
  refine (store_half _ _ _ _ _ _ _ _ h2 ht hi hx').mono ?_
  rintro e w3 ⟨rfl, f3, h3⟩
  replace f3 := (f2.mono (T := at' bf) fun _ _ e => e.elim).trans f3
  clear f2 h2
  go_wp2_with fail
  go_ret
  exact ⟨rfl, f3, h3⟩

theorem put_any (w : World) (p bf nf : Nat) (bs : List UInt8) (t i : Int) (v l : Bool) (r f : Int) (h : IsRam w p bf nf bs) :
    Calls Tryz.prog 32 #[.pointer (some ⟨p, 0, none⟩), .int .i64 t, .int .i64 i, .agg #[.bool v, .bool l, .int .i64 r, .int .i64 f]] w fun e w' =>
      e = .returned (.int .i64 (putE t i nf v l r f)) ∧ Fr (at' bf) w w' ∧ IsRam w' p bf nf (putB bs t i nf v l r f) := by
  unfold putE putB
  by_cases he : placeE t i nf = 0
  · rw [if_pos he]
    obtain ⟨t, i, rfl, rfl, ht, hi⟩ := place_cases he
    by_cases hr : rightE v l r f = true
    · rw [if_pos ⟨he, hr⟩, encE, if_pos hr, Int.toNat_natCast, Int.toNat_natCast]
      have hb := word_bounds hr
      exact put_ok w p bf nf bs t i (wordE v l r f).toNat v l r f h ht hi hr (by omega) (by omega)
    · rw [if_neg (fun e => hr e.2), encE, if_neg hr]
      refine (put_wrong w p bf nf bs t i v l r f h ht hi (by simpa using hr)).mono ?_
      rintro e w' ⟨rfl, f1⟩
      exact ⟨rfl, f1.mono fun _ _ e => e.elim, h.keep f1 (fun h => h) (fun h => h)⟩
  · rw [if_neg he, if_neg (fun e => he e.1)]
    refine (put_bad w p bf nf bs t i v l r f h he).mono ?_
    rintro e w' ⟨rfl, f1⟩
    exact ⟨rfl, f1.mono fun _ _ e => e.elim, h.keep f1 (fun h => h) (fun h => h)⟩

end Go.Proofs.YtgnoakidjnilpaaGreat
