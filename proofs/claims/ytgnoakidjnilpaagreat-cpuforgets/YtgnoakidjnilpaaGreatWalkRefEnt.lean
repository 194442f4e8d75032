/-
  The contract of the document's 'entry' (package viceroyref04) over the translation, said of the memory's half words. No statement is proved here.
-/
import Derived.Test.YtgnoakidjnilpaaGreatWalkVal
import Derived.Test.YtgnoakidjnilpaaGreatRefMem
namespace Go.Proofs.YtgnoakidjnilpaaGreat
open Go.RowKit

theorem idx_small {page lvl : Int} (hp : isP page = true) (hl : lvl = 0 ∨ lvl = 1) : ∃ i : Nat, idxOf page lvl = (i : Int) ∧ i < 32 := by
  have h := isP_iff.1 hp
  rcases hl with rfl | rfl
  · refine ⟨(page / 32).toNat, ?_, by omega⟩
    unfold idxOf; rw [if_neg (by omega), if_pos rfl]; omega
  · refine ⟨(page % 32).toNat, ?_, by omega⟩
    unfold idxOf; rw [if_neg (by omega), if_neg (by omega), if_pos rfl]; omega

theorem ew_half {bs : List UInt8} {t i : Nat} {page lvl : Int} (hi : idxOf page lvl = (i : Int)) : ew bs (t : Int) page lvl = ((half bs t i : Nat) : Int) := by
  simp [ew, hi]

theorem dv_ok {x : Int} (h : dv x = true) : decOk x = true := by
  unfold dv at h
  cases hd : decOk x <;> simp_all

theorem de_ok {x : Int} (h : dv x = true) : de x = 0 := by unfold de; rw [dv_ok h]; rfl

set_option maxHeartbeats 1000000 in
theorem rentry_low (w : World) (b : Nat) (t page lvl : Int) (ht : t < 0) :
    Calls Tryz.prog 63 #[.pointer (some ⟨b, 0, none⟩), .int .i64 t, .int .i64 page, .int .i64 lvl] w fun e w' => e = .returned (.tuple #[.agg #[.bool false, .bool false, .int .i64 0, .int .i64 0], .int .i64 3]) ∧ Fr none' w w' := by
  have g0 : decide (t < 0) = true := decide_eq_true ht
  go_enter Tryz.func63, Tryz.ntmps63
  go_wp2_with fail
  refine bodyPost_ret (ret_cell_tmp rfl rfl (row_alloc _ _ _) rfl) rfl ?_
  exact ⟨rfl, (Fr.refl _ _).alloc _⟩

set_option maxHeartbeats 1000000 in
theorem rentry_high (w : World) (p bf nf : Nat) (bs : List UInt8) (t page lvl : Int) (h : IsRef w p bf nf bs) (h0 : 0 ≤ t) (ht : (nf : Int) ≤ t) :
    Calls Tryz.prog 63 #[.pointer (some ⟨p, 0, none⟩), .int .i64 t, .int .i64 page, .int .i64 lvl] w fun e w' => e = .returned (.tuple #[.agg #[.bool false, .bool false, .int .i64 0, .int .i64 0], .int .i64 3]) ∧ Fr none' w w' := by
  have g0 : decide (t < 0) = false := decide_eq_false (by omega)
  have g1 : decide ((nf : Int) ≤ t) = true := decide_eq_true ht
  have h1 := h.keep ((Fr.refl none' w).alloc (.cells #[.bool false, .bool false, .int .i64 0, .int .i64 0] 71)) (fun h => h) (fun h => h)
  clear h h0 ht
  go_enter Tryz.func63, Tryz.ntmps63
  go_wp2_with fail
  refine (rframes_any _ _ _ _ _ h1).mono ?_
  rintro e w1 ⟨rfl, rfl⟩
  go_wp2_with fail
  refine bodyPost_ret (ret_cell_tmp rfl rfl (row_alloc _ _ _) rfl) rfl ?_
  exact ⟨rfl, (Fr.refl _ _).alloc _⟩

set_option maxHeartbeats 2000000 in
theorem rentry_miss0 (w : World) (p bf nf : Nat) (bs : List UInt8) (T i : Nat) (page : Int) (h : IsRef w p bf nf bs) (ht : T < nf) (hi : idxOf page 0 = (i : Int)) (hi' : i < 32) (hu : usable ((half bs T i : Nat) : Int) 0 = false) :
    Calls Tryz.prog 63 #[.pointer (some ⟨p, 0, none⟩), .int .i64 (T : Int), .int .i64 page, .int .i64 0] w fun e w' => e = .returned (.tuple #[.agg #[.bool false, .bool false, .int .i64 0, .int .i64 0], .int .i64 1]) ∧ Fr none' w w' := by
  have g0 : decide ((T : Int) < 0) = false := decide_eq_false (by omega)
  have g1 : decide ((nf : Int) ≤ (T : Int)) = false := decide_eq_false (by omega)
  have h1 := h.keep ((Fr.refl none' w).alloc (.cells #[.bool false, .bool false, .int .i64 0, .int .i64 0] 71)) (fun h => h) (fun h => h)
  have r8 := row_alloc w #[.bool false, .bool false, .int .i64 0, .int .i64 0] 71
  clear h
  cases hv : dv ((half bs T i : Nat) : Int) with
  | false =>
    clear hu
    cases hd : decOk ((half bs T i : Nat) : Int) with
    | false =>
      have he : de ((half bs T i : Nat) : Int) = 20 := by unfold de; rw [hd]; rfl
      clear hd
      go_enter Tryz.func63, Tryz.ntmps63
      go_wp2_with fail
      refine (rframes_any _ _ _ _ _ h1).mono ?_
      rintro e w1 ⟨rfl, rfl⟩
      go_wp2_with fail
      refine (rindex_any _ _ _).mono ?_
      rintro e w1 ⟨rfl, rfl⟩
      rw [hi]
      go_wp2_with fail
      refine (rget_ok _ _ _ _ _ _ _ h1 ht hi').mono ?_
      rintro e w2 ⟨rfl, f2⟩
      rw [hv, he]
      replace r8 := (r8.keep f2 (fun h => h)).alloc (.cells #[.bool false, .bool (dl (half bs T i)), .int .i64 (dr (half bs T i)), .int .i64 (df (half bs T i))] 71)
      have f3 := (((Fr.refl none' w).alloc (.cells #[.bool false, .bool false, .int .i64 0, .int .i64 0] 71)).trans f2).alloc (.cells #[.bool false, .bool (dl (half bs T i)), .int .i64 (dr (half bs T i)), .int .i64 (df (half bs T i))] 71)
      obtain ⟨c0, c1, c2, c3⟩ := row4 r8
      obtain ⟨z0, z1, z2, z3⟩ := ebox_frozen r8
      clear f2 h1
      go_wp2_with fail
      refine bodyPost_ret (ret_cell_tmp rfl rfl (ebox_set r8) rfl) rfl ?_
      exact ⟨rfl, ebox_fr f3 (Or.inl (Nat.le_refl _))⟩
    | true =>
      have he : de ((half bs T i : Nat) : Int) = 0 := by unfold de; rw [hd]; rfl
      clear hd
      go_enter Tryz.func63, Tryz.ntmps63
      go_wp2_with fail
      refine (rframes_any _ _ _ _ _ h1).mono ?_
      rintro e w1 ⟨rfl, rfl⟩
      go_wp2_with fail
      refine (rindex_any _ _ _).mono ?_
      rintro e w1 ⟨rfl, rfl⟩
      rw [hi]
      go_wp2_with fail
      refine (rget_ok _ _ _ _ _ _ _ h1 ht hi').mono ?_
      rintro e w2 ⟨rfl, f2⟩
      rw [hv, he]
      replace r8 := (r8.keep f2 (fun h => h)).alloc (.cells #[.bool false, .bool (dl (half bs T i)), .int .i64 (dr (half bs T i)), .int .i64 (df (half bs T i))] 71)
      have f3 := (((Fr.refl none' w).alloc (.cells #[.bool false, .bool false, .int .i64 0, .int .i64 0] 71)).trans f2).alloc (.cells #[.bool false, .bool (dl (half bs T i)), .int .i64 (dr (half bs T i)), .int .i64 (df (half bs T i))] 71)
      obtain ⟨c0, c1, c2, c3⟩ := row4 r8
      obtain ⟨z0, z1, z2, z3⟩ := ebox_frozen r8
      clear f2 h1
      go_wp2_with fail
      refine bodyPost_ret (ret_cell_tmp rfl rfl (ebox_set r8) rfl) rfl ?_
      exact ⟨rfl, ebox_fr f3 (Or.inl (Nat.le_refl _))⟩
  | true =>
    have he := de_ok hv
    have hl : dl ((half bs T i : Nat) : Int) = true := by simpa [usable, hv] using hu
    clear hu
    go_enter Tryz.func63, Tryz.ntmps63
    go_wp2_with fail
    refine (rframes_any _ _ _ _ _ h1).mono ?_
    rintro e w1 ⟨rfl, rfl⟩
    go_wp2_with fail
    refine (rindex_any _ _ _).mono ?_
    rintro e w1 ⟨rfl, rfl⟩
    rw [hi]
    go_wp2_with fail
    refine (rget_ok _ _ _ _ _ _ _ h1 ht hi').mono ?_
    rintro e w2 ⟨rfl, f2⟩
    rw [hv, he, hl]
    replace r8 := (r8.keep f2 (fun h => h)).alloc (.cells #[.bool true, .bool true, .int .i64 (dr (half bs T i)), .int .i64 (df (half bs T i))] 71)
    have f3 := (((Fr.refl none' w).alloc (.cells #[.bool false, .bool false, .int .i64 0, .int .i64 0] 71)).trans f2).alloc (.cells #[.bool true, .bool true, .int .i64 (dr (half bs T i)), .int .i64 (df (half bs T i))] 71)
    obtain ⟨c0, c1, c2, c3⟩ := row4 r8
    obtain ⟨z0, z1, z2, z3⟩ := ebox_frozen r8
    clear f2 h1
    go_wp2_with fail
    refine bodyPost_ret (ret_cell_tmp rfl rfl (ebox_set r8) rfl) rfl ?_
    exact ⟨rfl, ebox_fr f3 (Or.inl (Nat.le_refl _))⟩

set_option maxHeartbeats 2000000 in
theorem rentry_ok0 (w : World) (p bf nf : Nat) (bs : List UInt8) (T i : Nat) (page : Int) (h : IsRef w p bf nf bs) (ht : T < nf) (hi : idxOf page 0 = (i : Int)) (hi' : i < 32) (hu : usable ((half bs T i : Nat) : Int) 0 = true) :
    Calls Tryz.prog 63 #[.pointer (some ⟨p, 0, none⟩), .int .i64 (T : Int), .int .i64 page, .int .i64 0] w fun e w' => e = .returned (.tuple #[.agg #[.bool true, .bool (decide ((0 : Int) = 1)), .int .i64 (dr (half bs T i)), .int .i64 (df (half bs T i))], .int .i64 0]) ∧ Fr none' w w' := by
  have g0 : decide ((T : Int) < 0) = false := decide_eq_false (by omega)
  have g1 : decide ((nf : Int) ≤ (T : Int)) = false := decide_eq_false (by omega)
  have h1 := h.keep ((Fr.refl none' w).alloc (.cells #[.bool false, .bool false, .int .i64 0, .int .i64 0] 71)) (fun h => h) (fun h => h)
  have r8 := row_alloc w #[.bool false, .bool false, .int .i64 0, .int .i64 0] 71
  clear h
  obtain ⟨hv, hl⟩ : dv ((half bs T i : Nat) : Int) = true ∧ dl ((half bs T i : Nat) : Int) = false := by simpa [usable] using hu
  have he := de_ok hv
  clear hu
  go_enter Tryz.func63, Tryz.ntmps63
  go_wp2_with fail
  refine (rframes_any _ _ _ _ _ h1).mono ?_
  rintro e w1 ⟨rfl, rfl⟩
  go_wp2_with fail
  refine (rindex_any _ _ _).mono ?_
  rintro e w1 ⟨rfl, rfl⟩
  rw [hi]
  go_wp2_with fail
  refine (rget_ok _ _ _ _ _ _ _ h1 ht hi').mono ?_
  rintro e w2 ⟨rfl, f2⟩
  rw [hv, he, hl]
  replace r8 := (r8.keep f2 (fun h => h)).alloc (.cells #[.bool true, .bool false, .int .i64 (dr (half bs T i)), .int .i64 (df (half bs T i))] 71)
  have f3 := (((Fr.refl none' w).alloc (.cells #[.bool false, .bool false, .int .i64 0, .int .i64 0] 71)).trans f2).alloc (.cells #[.bool true, .bool false, .int .i64 (dr (half bs T i)), .int .i64 (df (half bs T i))] 71)
  obtain ⟨c0, c1, c2, c3⟩ := row4 r8
  obtain ⟨z0, z1, z2, z3⟩ := ebox_frozen r8
  clear f2 h1
  go_wp2_with fail
  refine bodyPost_ret (ret_cell_tmp rfl rfl (ebox_set r8) rfl) rfl ?_
  exact ⟨rfl, ebox_fr f3 (Or.inl (Nat.le_refl _))⟩

set_option maxHeartbeats 2000000 in
theorem rentry_miss1 (w : World) (p bf nf : Nat) (bs : List UInt8) (T i : Nat) (page : Int) (h : IsRef w p bf nf bs) (ht : T < nf) (hi : idxOf page 1 = (i : Int)) (hi' : i < 32) (hu : usable ((half bs T i : Nat) : Int) 1 = false) :
    Calls Tryz.prog 63 #[.pointer (some ⟨p, 0, none⟩), .int .i64 (T : Int), .int .i64 page, .int .i64 1] w fun e w' => e = .returned (.tuple #[.agg #[.bool false, .bool false, .int .i64 0, .int .i64 0], .int .i64 1]) ∧ Fr none' w w' := by
  have g0 : decide ((T : Int) < 0) = false := decide_eq_false (by omega)
  have g1 : decide ((nf : Int) ≤ (T : Int)) = false := decide_eq_false (by omega)
  have h1 := h.keep ((Fr.refl none' w).alloc (.cells #[.bool false, .bool false, .int .i64 0, .int .i64 0] 71)) (fun h => h) (fun h => h)
  have r8 := row_alloc w #[.bool false, .bool false, .int .i64 0, .int .i64 0] 71
  clear h
  cases hv : dv ((half bs T i : Nat) : Int) with
  | false =>
    clear hu
    cases hd : decOk ((half bs T i : Nat) : Int) with
    | false =>
      have he : de ((half bs T i : Nat) : Int) = 20 := by unfold de; rw [hd]; rfl
      clear hd
      go_enter Tryz.func63, Tryz.ntmps63
      go_wp2_with fail
      refine (rframes_any _ _ _ _ _ h1).mono ?_
      rintro e w1 ⟨rfl, rfl⟩
      go_wp2_with fail
      refine (rindex_any _ _ _).mono ?_
      rintro e w1 ⟨rfl, rfl⟩
      rw [hi]
      go_wp2_with fail
      refine (rget_ok _ _ _ _ _ _ _ h1 ht hi').mono ?_
      rintro e w2 ⟨rfl, f2⟩
      rw [hv, he]
      replace r8 := (r8.keep f2 (fun h => h)).alloc (.cells #[.bool false, .bool (dl (half bs T i)), .int .i64 (dr (half bs T i)), .int .i64 (df (half bs T i))] 71)
      have f3 := (((Fr.refl none' w).alloc (.cells #[.bool false, .bool false, .int .i64 0, .int .i64 0] 71)).trans f2).alloc (.cells #[.bool false, .bool (dl (half bs T i)), .int .i64 (dr (half bs T i)), .int .i64 (df (half bs T i))] 71)
      obtain ⟨c0, c1, c2, c3⟩ := row4 r8
      obtain ⟨z0, z1, z2, z3⟩ := ebox_frozen r8
      clear f2 h1
      go_wp2_with fail
      refine bodyPost_ret (ret_cell_tmp rfl rfl (ebox_set r8) rfl) rfl ?_
      exact ⟨rfl, ebox_fr f3 (Or.inl (Nat.le_refl _))⟩
    | true =>
      have he : de ((half bs T i : Nat) : Int) = 0 := by unfold de; rw [hd]; rfl
      clear hd
      go_enter Tryz.func63, Tryz.ntmps63
      go_wp2_with fail
      refine (rframes_any _ _ _ _ _ h1).mono ?_
      rintro e w1 ⟨rfl, rfl⟩
      go_wp2_with fail
      refine (rindex_any _ _ _).mono ?_
      rintro e w1 ⟨rfl, rfl⟩
      rw [hi]
      go_wp2_with fail
      refine (rget_ok _ _ _ _ _ _ _ h1 ht hi').mono ?_
      rintro e w2 ⟨rfl, f2⟩
      rw [hv, he]
      replace r8 := (r8.keep f2 (fun h => h)).alloc (.cells #[.bool false, .bool (dl (half bs T i)), .int .i64 (dr (half bs T i)), .int .i64 (df (half bs T i))] 71)
      have f3 := (((Fr.refl none' w).alloc (.cells #[.bool false, .bool false, .int .i64 0, .int .i64 0] 71)).trans f2).alloc (.cells #[.bool false, .bool (dl (half bs T i)), .int .i64 (dr (half bs T i)), .int .i64 (df (half bs T i))] 71)
      obtain ⟨c0, c1, c2, c3⟩ := row4 r8
      obtain ⟨z0, z1, z2, z3⟩ := ebox_frozen r8
      clear f2 h1
      go_wp2_with fail
      refine bodyPost_ret (ret_cell_tmp rfl rfl (ebox_set r8) rfl) rfl ?_
      exact ⟨rfl, ebox_fr f3 (Or.inl (Nat.le_refl _))⟩
  | true =>
    have he := de_ok hv
    have hl : dl ((half bs T i : Nat) : Int) = false := by simpa [usable, hv] using hu
    clear hu
    go_enter Tryz.func63, Tryz.ntmps63
    go_wp2_with fail
    refine (rframes_any _ _ _ _ _ h1).mono ?_
    rintro e w1 ⟨rfl, rfl⟩
    go_wp2_with fail
    refine (rindex_any _ _ _).mono ?_
    rintro e w1 ⟨rfl, rfl⟩
    rw [hi]
    go_wp2_with fail
    refine (rget_ok _ _ _ _ _ _ _ h1 ht hi').mono ?_
    rintro e w2 ⟨rfl, f2⟩
    rw [hv, he, hl]
    replace r8 := (r8.keep f2 (fun h => h)).alloc (.cells #[.bool true, .bool false, .int .i64 (dr (half bs T i)), .int .i64 (df (half bs T i))] 71)
    have f3 := (((Fr.refl none' w).alloc (.cells #[.bool false, .bool false, .int .i64 0, .int .i64 0] 71)).trans f2).alloc (.cells #[.bool true, .bool false, .int .i64 (dr (half bs T i)), .int .i64 (df (half bs T i))] 71)
    obtain ⟨c0, c1, c2, c3⟩ := row4 r8
    obtain ⟨z0, z1, z2, z3⟩ := ebox_frozen r8
    clear f2 h1
    go_wp2_with fail
    refine bodyPost_ret (ret_cell_tmp rfl rfl (ebox_set r8) rfl) rfl ?_
    exact ⟨rfl, ebox_fr f3 (Or.inl (Nat.le_refl _))⟩

set_option maxHeartbeats 2000000 in
theorem rentry_ok1 (w : World) (p bf nf : Nat) (bs : List UInt8) (T i : Nat) (page : Int) (h : IsRef w p bf nf bs) (ht : T < nf) (hi : idxOf page 1 = (i : Int)) (hi' : i < 32) (hu : usable ((half bs T i : Nat) : Int) 1 = true) :
    Calls Tryz.prog 63 #[.pointer (some ⟨p, 0, none⟩), .int .i64 (T : Int), .int .i64 page, .int .i64 1] w fun e w' => e = .returned (.tuple #[.agg #[.bool true, .bool (decide ((1 : Int) = 1)), .int .i64 (dr (half bs T i)), .int .i64 (df (half bs T i))], .int .i64 0]) ∧ Fr none' w w' := by
  have g0 : decide ((T : Int) < 0) = false := decide_eq_false (by omega)
  have g1 : decide ((nf : Int) ≤ (T : Int)) = false := decide_eq_false (by omega)
  have h1 := h.keep ((Fr.refl none' w).alloc (.cells #[.bool false, .bool false, .int .i64 0, .int .i64 0] 71)) (fun h => h) (fun h => h)
  have r8 := row_alloc w #[.bool false, .bool false, .int .i64 0, .int .i64 0] 71
  clear h
  obtain ⟨hv, hl⟩ : dv ((half bs T i : Nat) : Int) = true ∧ dl ((half bs T i : Nat) : Int) = true := by simpa [usable] using hu
  have he := de_ok hv
  clear hu
  go_enter Tryz.func63, Tryz.ntmps63
  go_wp2_with fail
  refine (rframes_any _ _ _ _ _ h1).mono ?_
  rintro e w1 ⟨rfl, rfl⟩
  go_wp2_with fail
  refine (rindex_any _ _ _).mono ?_
  rintro e w1 ⟨rfl, rfl⟩
  rw [hi]
  go_wp2_with fail
  refine (rget_ok _ _ _ _ _ _ _ h1 ht hi').mono ?_
  rintro e w2 ⟨rfl, f2⟩
  rw [hv, he, hl]
  replace r8 := (r8.keep f2 (fun h => h)).alloc (.cells #[.bool true, .bool true, .int .i64 (dr (half bs T i)), .int .i64 (df (half bs T i))] 71)
  have f3 := (((Fr.refl none' w).alloc (.cells #[.bool false, .bool false, .int .i64 0, .int .i64 0] 71)).trans f2).alloc (.cells #[.bool true, .bool true, .int .i64 (dr (half bs T i)), .int .i64 (df (half bs T i))] 71)
  obtain ⟨c0, c1, c2, c3⟩ := row4 r8
  obtain ⟨z0, z1, z2, z3⟩ := ebox_frozen r8
  clear f2 h1
  go_wp2_with fail
  refine bodyPost_ret (ret_cell_tmp rfl rfl (ebox_set r8) rfl) rfl ?_
  exact ⟨rfl, ebox_fr f3 (Or.inl (Nat.le_refl _))⟩

theorem rentry_bad (w : World) (p bf nf : Nat) (bs : List UInt8) (t page lvl : Int) (h : IsRef w p bf nf bs) (hp : isP page = true) (hl : lvl = 0 ∨ lvl = 1) (hk : entK bs nf t page lvl ≠ 0) :
    Calls Tryz.prog 63 #[.pointer (some ⟨p, 0, none⟩), .int .i64 t, .int .i64 page, .int .i64 lvl] w fun e w' => e = .returned (.tuple #[.agg #[.bool false, .bool false, .int .i64 0, .int .i64 0], .int .i64 (entK bs nf t page lvl)]) ∧ Fr none' w w' := by
  rcases entK_cases bs nf t page lvl with ⟨e, ho⟩ | ⟨e, _⟩ | ⟨e, ho, hu⟩
  · rw [e]
    by_cases h0 : t < 0
    · exact rentry_low w p t page lvl h0
    · exact rentry_high w p bf nf bs t page lvl h (by omega) (by omega)
  · exact absurd e hk
  · rw [e]
    obtain ⟨T, rfl⟩ := Int.eq_ofNat_of_zero_le (show 0 ≤ t by omega)
    obtain ⟨i, hi, hi'⟩ := idx_small hp hl
    rw [ew_half hi] at hu
    rcases hl with rfl | rfl
    · exact rentry_miss0 w p bf nf bs T i page h (by omega) hi hi' hu
    · exact rentry_miss1 w p bf nf bs T i page h (by omega) hi hi' hu

theorem rentry_ok (w : World) (p bf nf : Nat) (bs : List UInt8) (t page lvl : Int) (h : IsRef w p bf nf bs) (hp : isP page = true) (hl : lvl = 0 ∨ lvl = 1) (hk : entK bs nf t page lvl = 0) :
    Calls Tryz.prog 63 #[.pointer (some ⟨p, 0, none⟩), .int .i64 t, .int .i64 page, .int .i64 lvl] w fun e w' => e = .returned (.tuple #[.agg #[.bool true, .bool (decide (lvl = 1)), .int .i64 (dr (ew bs t page lvl)), .int .i64 (df (ew bs t page lvl))], .int .i64 0]) ∧ Fr none' w w' := by
  rcases entK_cases bs nf t page lvl with ⟨e, ho⟩ | ⟨e, ho, hu⟩ | ⟨e, ho, hu⟩
  · rw [e] at hk; exact absurd hk (by decide)
  · obtain ⟨T, rfl⟩ := Int.eq_ofNat_of_zero_le (show 0 ≤ t by omega)
    obtain ⟨i, hi, hi'⟩ := idx_small hp hl
    rw [ew_half hi] at hu ⊢
    rcases hl with rfl | rfl
    · exact rentry_ok0 w p bf nf bs T i page h (by omega) hi hi' hu
    · exact rentry_ok1 w p bf nf bs T i page h (by omega) hi hi' hu
  · rw [e] at hk; exact absurd hk (by decide)

end Go.Proofs.YtgnoakidjnilpaaGreat
