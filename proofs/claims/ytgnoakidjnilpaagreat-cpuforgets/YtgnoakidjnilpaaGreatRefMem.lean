/-
  Contracts of the document's wrong, Get and Put (package viceroyref02) over the translation, said of the memory's bytes. No statement is proved here.
-/
import Derived.Test.YtgnoakidjnilpaaGreatPteMem
import Derived.Test.YtgnoakidjnilpaaGreatRefVal
import Derived.Test.YtgnoakidjnilpaaGreatTwin
namespace Go.Proofs.YtgnoakidjnilpaaGreat
open Go.RowKit

set_option maxHeartbeats 400000 in
theorem rplace_ok (w : World) (p bf nf : Nat) (bs : List UInt8) (t i : Nat) (h : IsRef w p bf nf bs) (ht : t < nf) (hi : i < 32) :
    Calls Tryz.prog 60 #[.pointer (some ⟨p, 0, none⟩), .int .i64 (t : Int), .int .i64 (i : Int)] w fun e w' => e = .returned (.int .i64 0) ∧ w = w' := by
  have t1 : decide ((i : Int) < 0) = false := by simp
  have t2 : decide (32 ≤ (i : Int)) = false := by simp; omega
  have t3 : decide ((t : Int) < 0) = false := by simp
  have t4 : decide ((nf : Int) ≤ (t : Int)) = false := by simp; omega
  go_enter Tryz.func60, Tryz.ntmps60
  go_wp2_with (go_at_call 102; refine (rframes_any _ _ _ _ _ h).mono ?_; rintro e w' ⟨rfl, rfl⟩)
  go_ret
  exact ⟨rfl, rfl⟩

set_option maxHeartbeats 400000 in
theorem rplace_bad (w : World) (p bf nf : Nat) (bs : List UInt8) (t i : Int) (h : IsRef w p bf nf bs) (he : placeE t i nf ≠ 0) :
    Calls Tryz.prog 60 #[.pointer (some ⟨p, 0, none⟩), .int .i64 t, .int .i64 i] w fun e w' => e = .returned (.int .i64 (placeE t i nf)) ∧ w = w' := by
  unfold placeE at he ⊢
  by_cases a : i < 0
  · have t1 : decide (i < 0) = true := by simpa using a
    rw [if_pos (Or.inl a)]
    clear he a
    go_enter Tryz.func60, Tryz.ntmps60
    go_wp2
    go_ret
    exact ⟨rfl, rfl⟩
  by_cases b : 31 < i
  · have t1 : decide (i < 0) = false := by simpa using a
    have t2 : decide (32 ≤ i) = true := by simp; omega
    rw [if_pos (Or.inr b)]
    clear he a b
    go_enter Tryz.func60, Tryz.ntmps60
    go_wp2
    go_ret
    exact ⟨rfl, rfl⟩
  have t1 : decide (i < 0) = false := by simpa using a
  have t2 : decide (32 ≤ i) = false := by simp; omega
  rw [if_neg (by omega)] at he ⊢
  clear a b
  by_cases c : t < 0
  · have t3 : decide (t < 0) = true := by simpa using c
    rw [if_pos (Or.inl c)]
    clear he c
    go_enter Tryz.func60, Tryz.ntmps60
    go_wp2
    go_ret
    exact ⟨rfl, rfl⟩
  by_cases d : (nf : Int) ≤ t
  · have t3 : decide (t < 0) = false := by simpa using c
    have t4 : decide ((nf : Int) ≤ t) = true := by simpa using d
    rw [if_pos (Or.inr d)]
    clear he c d
    go_enter Tryz.func60, Tryz.ntmps60
    go_wp2_with (go_at_call 102; refine (rframes_any _ _ _ _ _ h).mono ?_; rintro e w' ⟨rfl, rfl⟩)
    go_ret
    exact ⟨rfl, rfl⟩
  · rw [if_neg (by omega)] at he; omega

theorem rload_half (w : World) (p bf nf : Nat) (bs : List UInt8) (t i : Nat) (h : IsRef w p bf nf bs) (ht : t < nf) (hi : i < 32) :
    Calls Tryz.prog 40 #[.pointer (some ⟨p, 0, none⟩), .int .i64 (64 * (t : Int) + 2 * (i : Int)), .int .i64 2] w fun e w' => e = .returned (.tuple #[.int .u32 ((half bs t i : Nat) : Int), .int .i64 0]) ∧ w' = w := by
  have e0 := errOf_half t i nf ht hi
  have := rload_any w p bf nf bs ((t * 64 + i * 2 : Nat) : Int) 2 h
  rw [loadV, if_pos e0, e0, Int.toNat_natCast, show (2 : Int).toNat = 2 from rfl] at this
  rw [show 64 * (t : Int) + 2 * (i : Int) = ((t * 64 + i * 2 : Nat) : Int) by omega]
  exact this

theorem rstore_half (w : World) (p bf nf : Nat) (bs : List UInt8) (t i v : Nat) (h : IsRef w p bf nf bs) (ht : t < nf) (hi : i < 32) (hv : v < 65536) :
    Calls Tryz.prog 34 #[.pointer (some ⟨p, 0, none⟩), .int .i64 (64 * (t : Int) + 2 * (i : Int)), .int .i64 2, .int .u32 (v : Int)] w fun e w' => e = .returned (.int .i64 0) ∧ Fr (at' bf) w w' ∧ IsRef w' p bf nf (putAt bs (t * 64 + i * 2) (bytesOf 2 v)) := by
  have e0 := errOf_half t i nf ht hi
  have := rstore_any w p bf nf bs ((t * 64 + i * 2 : Nat) : Int) 2 v h (by omega)
  rw [storeB, if_pos e0, e0, Int.toNat_natCast, show (2 : Int).toNat = 2 from rfl] at this
  rw [show 64 * (t : Int) + 2 * (i : Int) = ((t * 64 + i * 2 : Nat) : Int) by omega]
  exact this

set_option maxHeartbeats 400000 in
theorem rget_ok (w : World) (p bf nf : Nat) (bs : List UInt8) (t i : Nat) (h : IsRef w p bf nf bs) (ht : t < nf) (hi : i < 32) :
    Calls Tryz.prog 21 #[.pointer (some ⟨p, 0, none⟩), .int .i64 (t : Int), .int .i64 (i : Int)] w fun e w' =>
      e = .returned (.tuple #[.agg #[.bool (dv (half bs t i)), .bool (dl (half bs t i)), .int .i64 (dr (half bs t i)), .int .i64 (df (half bs t i))], .int .i64 (de (half bs t i))]) ∧ Fr none' w w' := by
  have hm := h.most
  have f0 := (Fr.refl none' w).alloc (.cells (ebox false false 0 0) 71)
  have r0 := row_alloc w (ebox false false 0 0) 71
  have h0 := h.keep f0 (fun h => h) (fun h => h)
  have hl := half_lt bs t i
  unfold ebox at f0 h0
  go_enter Tryz.func21, Tryz.ntmps21
  go_wp2_with fail
  refine (rplace_ok _ _ _ _ _ _ _ h0 ht hi).mono ?_
  rintro e w1 ⟨rfl, rfl⟩
  go_wp2_with fail
  refine (rload_half _ _ _ _ _ _ _ h0 ht hi).mono ?_
  rintro e w1 ⟨rfl, rfl⟩
  go_wp2_with fail
  refine (rdec_any _ _ hl).mono ?_
  rintro e w2 ⟨rfl, f2⟩
  have r2 := r0.keep f2 (fun h => h)
  replace f2 := f0.trans f2
  clear r0 f0 h0
  obtain ⟨c0, c1, c2, c3⟩ := ebox_cells r2
  obtain ⟨k0, k1, k2, k3⟩ := ebox_frozen r2
  go_wp2_with fail
  refine bodyPost_ret (ret_cell_tmp rfl rfl (ebox_set r2) rfl) rfl ?_
  exact ⟨rfl, ebox_fr f2 (Or.inl (Nat.le_refl _))⟩

set_option maxHeartbeats 400000 in
theorem rget_bad (w : World) (p bf nf : Nat) (bs : List UInt8) (t i : Int) (h : IsRef w p bf nf bs) (he : placeE t i nf ≠ 0) :
    Calls Tryz.prog 21 #[.pointer (some ⟨p, 0, none⟩), .int .i64 t, .int .i64 i] w fun e w' =>
      e = .returned (.tuple #[.agg #[.bool false, .bool false, .int .i64 0, .int .i64 0], .int .i64 (placeE t i nf)]) ∧ Fr none' w w' := by
  have f0 := (Fr.refl none' w).alloc (.cells (ebox false false 0 0) 71)
  have r0 := row_alloc w (ebox false false 0 0) 71
  have h0 := h.keep f0 (fun h => h) (fun h => h)
  have hb : (placeE t i nf != 0) = true := by simpa using he
  have HE : Hid (placeE t i nf ≠ 0) := he
  clear he
  unfold ebox at f0 h0 r0
  go_enter Tryz.func21, Tryz.ntmps21
  go_wp2_with fail
  refine (rplace_bad _ _ _ _ _ _ _ h0 HE).mono ?_
  rintro e w1 ⟨rfl, rfl⟩
  go_wp2_with fail
  refine bodyPost_ret (ret_cell_tmp rfl rfl r0 rfl) rfl ?_
  exact ⟨rfl, f0⟩

set_option maxHeartbeats 400000 in
theorem rput_bad (w : World) (p bf nf : Nat) (bs : List UInt8) (t i : Int) (v l : Bool) (r f : Int) (h : IsRef w p bf nf bs) (he : placeE t i nf ≠ 0) :
    Calls Tryz.prog 33 #[.pointer (some ⟨p, 0, none⟩), .int .i64 t, .int .i64 i, .agg #[.bool v, .bool l, .int .i64 r, .int .i64 f]] w fun e w' => e = .returned (.int .i64 (placeE t i nf)) ∧ Fr none' w w' := by
  have f0 := (Fr.refl none' w).alloc (.cells (ebox v l r f) 71)
  have h0 := h.keep f0 (fun h => h) (fun h => h)
  have hb : (placeE t i nf != 0) = true := by simpa using he
  have HE : Hid (placeE t i nf ≠ 0) := he
  clear he
  unfold ebox at f0 h0
  go_enter Tryz.func33, Tryz.ntmps33
  go_wp2_with fail
  refine (rplace_bad _ _ _ _ _ _ _ h0 HE).mono ?_
  rintro e w1 ⟨rfl, rfl⟩
  go_wp2_with fail
  go_ret
  exact ⟨rfl, f0⟩

set_option maxHeartbeats 400000 in
theorem rput_wrong (w : World) (p bf nf : Nat) (bs : List UInt8) (t i : Nat) (v l : Bool) (r f : Int) (h : IsRef w p bf nf bs) (ht : t < nf) (hi : i < 32) (hr : rightE v l r f = false) :
    Calls Tryz.prog 33 #[.pointer (some ⟨p, 0, none⟩), .int .i64 (t : Int), .int .i64 (i : Int), .agg #[.bool v, .bool l, .int .i64 r, .int .i64 f]] w fun e w' => e = .returned (.int .i64 20) ∧ Fr none' w w' := by
  have f0 := (Fr.refl none' w).alloc (.cells (ebox v l r f) 71)
  have h0 := h.keep f0 (fun h => h) (fun h => h)
  unfold ebox at f0 h0
  go_enter Tryz.func33, Tryz.ntmps33
  go_wp2_with fail
  refine (rplace_ok _ _ _ _ _ _ _ h0 ht hi).mono ?_
  rintro e w1 ⟨rfl, rfl⟩
  go_wp2_with fail
  refine (renc_bad _ _ _ _ _ hr).mono ?_
  rintro e w2 ⟨rfl, f2⟩
  replace f2 := f0.trans f2
  clear f0 h0
  go_wp2_with fail
  go_ret
  exact ⟨rfl, f2⟩

set_option maxHeartbeats 400000 in
theorem rput_ok (w : World) (p bf nf : Nat) (bs : List UInt8) (t i x : Nat) (v l : Bool) (r f : Int) (h : IsRef w p bf nf bs) (ht : t < nf) (hi : i < 32) (hr : rightE v l r f = true) (hx : wordE v l r f = (x : Int)) (hx' : x < 65536) :
    Calls Tryz.prog 33 #[.pointer (some ⟨p, 0, none⟩), .int .i64 (t : Int), .int .i64 (i : Int), .agg #[.bool v, .bool l, .int .i64 r, .int .i64 f]] w fun e w' => e = .returned (.int .i64 0) ∧ Fr (at' bf) w w' ∧ IsRef w' p bf nf (putAt bs (t * 64 + i * 2) (bytesOf 2 x)) := by
  have hm := h.most
  have f0 := (Fr.refl none' w).alloc (.cells (ebox v l r f) 71)
  have h0 := h.keep f0 (fun h => h) (fun h => h)
  have HX : Hid (wordE v l r f = (x : Int)) := hx
  clear hx
  unfold ebox at f0 h0
  go_enter Tryz.func33, Tryz.ntmps33
  go_wp2_with fail
  refine (rplace_ok _ _ _ _ _ _ _ h0 ht hi).mono ?_
  rintro e w1 ⟨rfl, rfl⟩
  go_wp2_with fail
  refine (renc_ok _ _ _ _ _ hr).mono ?_
  rintro e w2 ⟨rfl, f2⟩
  rw [HX.out]
  have h2 := h0.keep f2 (fun h => h) (fun h => h)
  replace f2 := f0.trans f2
  clear f0 h0
  go_wp2_with fail
  refine (rstore_half _ _ _ _ _ _ _ _ h2 ht hi hx').mono ?_
  rintro e w3 ⟨rfl, f3, h3⟩
  replace f3 := (f2.mono (T := at' bf) fun _ _ e => e.elim).trans f3
  clear f2 h2
  go_wp2_with fail
  go_ret
  exact ⟨rfl, f3, h3⟩

theorem rput_any (w : World) (p bf nf : Nat) (bs : List UInt8) (t i : Int) (v l : Bool) (r f : Int) (h : IsRef w p bf nf bs) :
    Calls Tryz.prog 33 #[.pointer (some ⟨p, 0, none⟩), .int .i64 t, .int .i64 i, .agg #[.bool v, .bool l, .int .i64 r, .int .i64 f]] w fun e w' =>
      e = .returned (.int .i64 (putE t i nf v l r f)) ∧ Fr (at' bf) w w' ∧ IsRef w' p bf nf (putB bs t i nf v l r f) := by
  unfold putE putB
  by_cases he : placeE t i nf = 0
  · rw [if_pos he]
    obtain ⟨t, i, rfl, rfl, ht, hi⟩ := place_cases he
    by_cases hr : rightE v l r f = true
    · rw [if_pos ⟨he, hr⟩, encE, if_pos hr, Int.toNat_natCast, Int.toNat_natCast]
      have hb := word_bounds hr
      exact rput_ok w p bf nf bs t i (wordE v l r f).toNat v l r f h ht hi hr (by omega) (by omega)
    · rw [if_neg (fun e => hr e.2), encE, if_neg hr]
      refine (rput_wrong w p bf nf bs t i v l r f h ht hi (by simpa using hr)).mono ?_
      rintro e w' ⟨rfl, f1⟩
      exact ⟨rfl, f1.mono fun _ _ e => e.elim, h.keep f1 (fun h => h) (fun h => h)⟩
  · rw [if_neg he, if_neg (fun e => he e.1)]
    refine (rput_bad w p bf nf bs t i v l r f h he).mono ?_
    rintro e w' ⟨rfl, f1⟩
    exact ⟨rfl, f1.mono fun _ _ e => e.elim, h.keep f1 (fun h => h) (fun h => h)⟩

theorem rget_good (w : World) (p bf nf : Nat) (bs : List UInt8) (t i : Nat) (h : IsRef w p bf nf bs) (ht : t < nf) (hi : i < 32) (hd : decOk (half bs t i) = true) :
    Calls Tryz.prog 21 #[.pointer (some ⟨p, 0, none⟩), .int .i64 (t : Int), .int .i64 (i : Int)] w fun e w' =>
      e = .returned (.tuple #[.agg #[.bool (dv (half bs t i)), .bool (dl (half bs t i)), .int .i64 (dr (half bs t i)), .int .i64 (df (half bs t i))], .int .i64 0]) ∧ Fr none' w w' := by
  have := rget_ok w p bf nf bs t i h ht hi
  rwa [show de (half bs t i) = 0 by unfold de; rw [if_pos hd]] at this

theorem rget_worse (w : World) (p bf nf : Nat) (bs : List UInt8) (t i : Nat) (h : IsRef w p bf nf bs) (ht : t < nf) (hi : i < 32) (hd : decOk (half bs t i) = false) :
    Calls Tryz.prog 21 #[.pointer (some ⟨p, 0, none⟩), .int .i64 (t : Int), .int .i64 (i : Int)] w fun e w' =>
      e = .returned (.tuple #[.agg #[.bool (dv (half bs t i)), .bool (dl (half bs t i)), .int .i64 (dr (half bs t i)), .int .i64 (df (half bs t i))], .int .i64 20]) ∧ Fr none' w w' := by
  have := rget_ok w p bf nf bs t i h ht hi
  rwa [show de (half bs t i) = 20 by unfold de; rw [hd]; rfl] at this

theorem rget_out (w : World) (p bf nf : Nat) (bs : List UInt8) (t : Int) (h : IsRef w p bf nf bs) (ht : t < 0 ∨ (nf : Int) ≤ t) :
    Calls Tryz.prog 21 #[.pointer (some ⟨p, 0, none⟩), .int .i64 t, .int .i64 0] w fun e w' =>
      e = .returned (.tuple #[.agg #[.bool false, .bool false, .int .i64 0, .int .i64 0], .int .i64 10]) ∧ Fr none' w w' := by
  have he : placeE t 0 nf = 10 := by unfold placeE; rw [if_neg (by omega), if_pos ht]
  have := rget_bad w p bf nf bs t 0 h (by rw [he]; omega)
  rwa [he] at this

end Go.Proofs.YtgnoakidjnilpaaGreat
