/-
  Contracts of the document's Single and 'with' (package viceroyref04) over the translation: what they tell is the plain function of the memory's half words. No statement is proved here.
-/
import Derived.Test.YthmombgogmgobaaWalkRefEnt
import Derived.Test.YthmombgogmgobaaWalkBits
import Derived.Test.YthmombgogmgobaaRefFrame
import Derived.Test.YthmombgogmgobaaTlbLess
namespace Go.Proofs.Ythmombgogmgobaa
open Go.RowKit

theorem IsRef.alloc {w : World} {p bf nf : Nat} {bs : List UInt8} (h : IsRef w p bf nf bs) (o : Obj) : IsRef (w.alloc o) p bf nf bs := h.keep ((Fr.refl none' w).alloc o) (fun h => h) (fun h => h)

set_option maxHeartbeats 1000000 in
theorem rsingle_lo (w : World) (p : Nat) (root page : Int) (hp : page < 0) :
    Calls Try.prog 71 #[.pointer (some ⟨p, 0, none⟩), .int .i64 root, .int .i64 page] w fun e w' => e = .returned (.tuple #[.int .i64 0, .int .i64 0, .agg #[.int .i64 3, .int .i64 0, .int .i64 0, .bool false, .int .i64 0]]) ∧ Fr none' w w' := by
  have t0 : decide (page < 0) = true := decide_eq_true hp
  go_enter Try.func71, Try.ntmps71
  go_wp2_with fail
  refine bodyPost_ret (ret_ttf rfl rfl (row_alloc _ _ _) rfl) rfl ?_
  exact ⟨rfl, (Fr.refl _ _).alloc _⟩

set_option maxHeartbeats 1000000 in
theorem rsingle_hi (w : World) (p : Nat) (root page : Int) (h0 : ¬ page < 0) (hp : 1023 < page) :
    Calls Try.prog 71 #[.pointer (some ⟨p, 0, none⟩), .int .i64 root, .int .i64 page] w fun e w' => e = .returned (.tuple #[.int .i64 0, .int .i64 0, .agg #[.int .i64 3, .int .i64 0, .int .i64 0, .bool false, .int .i64 0]]) ∧ Fr none' w w' := by
  have t0 : decide (page < 0) = false := decide_eq_false h0
  have t1 : decide (1023 < page) = true := decide_eq_true hp
  go_enter Try.func71, Try.ntmps71
  go_wp2_with fail
  refine bodyPost_ret (ret_ttf rfl rfl (row_alloc _ _ _) rfl) rfl ?_
  exact ⟨rfl, (Fr.refl _ _).alloc _⟩

set_option maxHeartbeats 1000000 in
theorem rsingle_bad0 (w : World) (p bf nf : Nat) (bs : List UInt8) (root page : Int) (h : IsRef w p bf nf bs) (hp : isP page = true) (hk : entK bs nf root page 0 ≠ 0) :
    Calls Try.prog 71 #[.pointer (some ⟨p, 0, none⟩), .int .i64 root, .int .i64 page] w fun e w' => e = .returned (.tuple #[.int .i64 0, .int .i64 0, .agg #[.int .i64 (entK bs nf root page 0), .int .i64 2, .int .i64 0, .bool false, .int .i64 page]]) ∧ Fr none' w w' := by
  have f1 := Fr.refl none' w
  have t0 : decide (page < 0) = false := decide_eq_false (by have := isP_iff.1 hp; omega)
  have t1 : decide (1023 < page) = false := decide_eq_false (by have := isP_iff.1 hp; omega)
  have t2 : (entK bs nf root page 0 != 0) = true := by simp [hk]
  have r8 := row_alloc w #[.int .i64 0, .int .i64 0, .int .i64 0, .bool false, .int .i64 0] 43
  replace h := h.alloc (.cells #[.int .i64 0, .int .i64 0, .int .i64 0, .bool false, .int .i64 0] 43)
  replace f1 := f1.alloc (.cells #[.int .i64 0, .int .i64 0, .int .i64 0, .bool false, .int .i64 0] 43)
  go_enter Try.func71, Try.ntmps71
  go_wp2_with fail
  refine (rentry_bad _ _ _ _ _ _ _ _ h hp (Or.inl rfl) hk).mono ?_
  rintro e v1 ⟨rfl, g1⟩
  replace r8 := r8.keep g1 (fun h => h)
  replace h := h.keep g1 (fun h => h) (fun h => h)
  replace f1 := f1.trans g1
  clear g1
  have r9 := row_alloc v1 #[.bool false, .bool false, .int .i64 0, .int .i64 0] 29
  replace r8 := r8.alloc (.cells #[.bool false, .bool false, .int .i64 0, .int .i64 0] 29)
  replace h := h.alloc (.cells #[.bool false, .bool false, .int .i64 0, .int .i64 0] 29)
  replace f1 := f1.alloc (.cells #[.bool false, .bool false, .int .i64 0, .int .i64 0] 29)
  obtain ⟨c0x0, c0x1, c0x2, c0x3, c0x4⟩ := cells5 r8
  obtain ⟨z1x0, z1x1, z1x2, z1x3, z1x4⟩ := frozen5 r8
  go_wp2_with fail
  refine bodyPost_ret (ret_ttf rfl rfl (r8.put5 _ _ _ _ _) rfl) rfl ?_
  exact ⟨rfl, f1.put5 (Or.inl (Nat.le_refl _)) _ _ _ _ _⟩

set_option maxHeartbeats 1000000 in
theorem rsingle_bad1 (w : World) (p bf nf : Nat) (bs : List UInt8) (root page : Int) (h : IsRef w p bf nf bs) (hp : isP page = true) (hk : entK bs nf root page 0 = 0) (hj : entK bs nf (df (ew bs root page 0)) page 1 ≠ 0) :
    Calls Try.prog 71 #[.pointer (some ⟨p, 0, none⟩), .int .i64 root, .int .i64 page] w fun e w' => e = .returned (.tuple #[.int .i64 0, .int .i64 0, .agg #[.int .i64 (entK bs nf (df (ew bs root page 0)) page 1), .int .i64 2, .int .i64 1, .bool false, .int .i64 page]]) ∧ Fr none' w w' := by
  have f1 := Fr.refl none' w
  have t0 : decide (page < 0) = false := decide_eq_false (by have := isP_iff.1 hp; omega)
  have t1 : decide (1023 < page) = false := decide_eq_false (by have := isP_iff.1 hp; omega)
  have t2 : ((entK bs nf (df (ew bs root page 0)) page 1) != 0) = true := by simp [hj]
  have r8 := row_alloc w #[.int .i64 0, .int .i64 0, .int .i64 0, .bool false, .int .i64 0] 43
  replace h := h.alloc (.cells #[.int .i64 0, .int .i64 0, .int .i64 0, .bool false, .int .i64 0] 43)
  replace f1 := f1.alloc (.cells #[.int .i64 0, .int .i64 0, .int .i64 0, .bool false, .int .i64 0] 43)
  go_enter Try.func71, Try.ntmps71
  go_wp2_with fail
  refine (rentry_ok _ _ _ _ _ _ _ _ h hp (Or.inl rfl) hk).mono ?_
  rintro e v1 ⟨rfl, g1⟩
  replace r8 := r8.keep g1 (fun h => h)
  replace h := h.keep g1 (fun h => h) (fun h => h)
  replace f1 := f1.trans g1
  clear g1
  have r9 := row_alloc v1 #[.bool true, .bool false, .int .i64 (dr (ew bs root page 0)), .int .i64 (df (ew bs root page 0))] 29
  replace r8 := r8.alloc (.cells #[.bool true, .bool false, .int .i64 (dr (ew bs root page 0)), .int .i64 (df (ew bs root page 0))] 29)
  replace h := h.alloc (.cells #[.bool true, .bool false, .int .i64 (dr (ew bs root page 0)), .int .i64 (df (ew bs root page 0))] 29)
  replace f1 := f1.alloc (.cells #[.bool true, .bool false, .int .i64 (dr (ew bs root page 0)), .int .i64 (df (ew bs root page 0))] 29)
  obtain ⟨c0x0, c0x1, c0x2, c0x3⟩ := row4 r9
  go_wp2_with fail
  refine (rentry_bad _ _ _ _ _ _ _ _ h hp (Or.inr rfl) hj).mono ?_
  rintro e v2 ⟨rfl, g2⟩
  clear c0x0 c0x1 c0x2 c0x3
  replace r8 := r8.keep g2 (fun h => h)
  replace r9 := r9.keep g2 (fun h => h)
  replace h := h.keep g2 (fun h => h) (fun h => h)
  replace f1 := f1.trans g2
  clear g2
  have r11 := row_alloc v2 #[.bool false, .bool false, .int .i64 0, .int .i64 0] 29
  replace r8 := r8.alloc (.cells #[.bool false, .bool false, .int .i64 0, .int .i64 0] 29)
  replace r9 := r9.alloc (.cells #[.bool false, .bool false, .int .i64 0, .int .i64 0] 29)
  replace h := h.alloc (.cells #[.bool false, .bool false, .int .i64 0, .int .i64 0] 29)
  replace f1 := f1.alloc (.cells #[.bool false, .bool false, .int .i64 0, .int .i64 0] 29)
  obtain ⟨c1x0, c1x1, c1x2, c1x3, c1x4⟩ := cells5 r8
  obtain ⟨z2x0, z2x1, z2x2, z2x3, z2x4⟩ := frozen5 r8
  go_wp2_with fail
  refine bodyPost_ret (ret_ttf rfl rfl (r8.put5 _ _ _ _ _) rfl) rfl ?_
  exact ⟨rfl, f1.put5 (Or.inl (Nat.le_refl _)) _ _ _ _ _⟩

set_option maxHeartbeats 2000000 in
theorem rsingle_ok (w : World) (p bf nf : Nat) (bs : List UInt8) (root page : Int) (h : IsRef w p bf nf bs) (hp : isP page = true) (hk : entK bs nf root page 0 = 0) (hj : entK bs nf (df (ew bs root page 0)) page 1 = 0) :
    Calls Try.prog 71 #[.pointer (some ⟨p, 0, none⟩), .int .i64 root, .int .i64 page] w fun e w' => e = .returned (.tuple #[.int .i64 (df (ew bs (df (ew bs root page 0)) page 1)), .int .i64 (dr (ew bs (df (ew bs root page 0)) page 1)), .agg #[.int .i64 0, .int .i64 0, .int .i64 0, .bool false, .int .i64 0]]) ∧ Fr none' w w' := by
  have f1 := Fr.refl none' w
  have t0 : decide (page < 0) = false := decide_eq_false (by have := isP_iff.1 hp; omega)
  have t1 : decide (1023 < page) = false := decide_eq_false (by have := isP_iff.1 hp; omega)
  have r8 := row_alloc w #[.int .i64 0, .int .i64 0, .int .i64 0, .bool false, .int .i64 0] 43
  replace h := h.alloc (.cells #[.int .i64 0, .int .i64 0, .int .i64 0, .bool false, .int .i64 0] 43)
  replace f1 := f1.alloc (.cells #[.int .i64 0, .int .i64 0, .int .i64 0, .bool false, .int .i64 0] 43)
  go_enter Try.func71, Try.ntmps71
  go_wp2_with fail
  refine (rentry_ok _ _ _ _ _ _ _ _ h hp (Or.inl rfl) hk).mono ?_
  rintro e v1 ⟨rfl, g1⟩
  replace r8 := r8.keep g1 (fun h => h)
  replace h := h.keep g1 (fun h => h) (fun h => h)
  replace f1 := f1.trans g1
  clear g1
  have r9 := row_alloc v1 #[.bool true, .bool false, .int .i64 (dr (ew bs root page 0)), .int .i64 (df (ew bs root page 0))] 29
  replace r8 := r8.alloc (.cells #[.bool true, .bool false, .int .i64 (dr (ew bs root page 0)), .int .i64 (df (ew bs root page 0))] 29)
  replace h := h.alloc (.cells #[.bool true, .bool false, .int .i64 (dr (ew bs root page 0)), .int .i64 (df (ew bs root page 0))] 29)
  replace f1 := f1.alloc (.cells #[.bool true, .bool false, .int .i64 (dr (ew bs root page 0)), .int .i64 (df (ew bs root page 0))] 29)
  obtain ⟨c0x0, c0x1, c0x2, c0x3⟩ := row4 r9
  go_wp2_with fail
  refine (rentry_ok _ _ _ _ _ _ _ _ h hp (Or.inr rfl) hj).mono ?_
  rintro e v2 ⟨rfl, g2⟩
  clear c0x0 c0x1 c0x2 c0x3
  replace r8 := r8.keep g2 (fun h => h)
  replace r9 := r9.keep g2 (fun h => h)
  replace h := h.keep g2 (fun h => h) (fun h => h)
  replace f1 := f1.trans g2
  clear g2
  have r11 := row_alloc v2 #[.bool true, .bool true, .int .i64 (dr (ew bs (df (ew bs root page 0)) page 1)), .int .i64 (df (ew bs (df (ew bs root page 0)) page 1))] 29
  replace r8 := r8.alloc (.cells #[.bool true, .bool true, .int .i64 (dr (ew bs (df (ew bs root page 0)) page 1)), .int .i64 (df (ew bs (df (ew bs root page 0)) page 1))] 29)
  replace r9 := r9.alloc (.cells #[.bool true, .bool true, .int .i64 (dr (ew bs (df (ew bs root page 0)) page 1)), .int .i64 (df (ew bs (df (ew bs root page 0)) page 1))] 29)
  replace h := h.alloc (.cells #[.bool true, .bool true, .int .i64 (dr (ew bs (df (ew bs root page 0)) page 1)), .int .i64 (df (ew bs (df (ew bs root page 0)) page 1))] 29)
  replace f1 := f1.alloc (.cells #[.bool true, .bool true, .int .i64 (dr (ew bs (df (ew bs root page 0)) page 1)), .int .i64 (df (ew bs (df (ew bs root page 0)) page 1))] 29)
  obtain ⟨c1x0, c1x1, c1x2, c1x3⟩ := row4 r11
  obtain ⟨c2x0, c2x1, c2x2, c2x3, c2x4⟩ := cells5 r8
  obtain ⟨z3x0, z3x1, z3x2, z3x3, z3x4⟩ := frozen5 r8
  go_wp2_with fail
  go_region
  go_wp2_with fail
  refine bodyPost_ret (ret_ttf rfl rfl (r8.put5 _ _ _ _ _).drew rfl) rfl ?_
  exact ⟨rfl, (f1.put5 (Or.inl (Nat.le_refl _)) _ _ _ _ _).drew⟩

theorem rsingle_any (w : World) (p bf nf : Nat) (bs : List UInt8) (root page : Int) (h : IsRef w p bf nf bs) :
    Calls Try.prog 71 #[.pointer (some ⟨p, 0, none⟩), .int .i64 root, .int .i64 page] w fun e w' => e = .returned (.tuple #[.int .i64 (single bs nf root page).fr, .int .i64 (single bs nf root page).ri, .agg #[.int .i64 (single bs nf root page).ft.k, .int .i64 (single bs nf root page).ft.s, .int .i64 (single bs nf root page).ft.l, .bool (single bs nf root page).ft.wk, .int .i64 (single bs nf root page).ft.p]]) ∧ Fr none' w w' := by
  rcases single_cases bs nf root page with ⟨hp, e⟩ | ⟨hp, h1, e⟩ | ⟨hp, h1, h2, e⟩ | ⟨hp, h1, h2, e⟩
  · rw [e]
    have hn : ¬ (0 ≤ page ∧ page ≤ 1023) := fun hh => by rw [isP_iff.2 hh] at hp; exact absurd hp (by decide)
    by_cases h0 : page < 0
    · exact rsingle_lo w p root page h0
    · exact rsingle_hi w p root page h0 (by omega)
  · rw [e]; exact rsingle_bad0 w p bf nf bs root page h hp h1
  · rw [e]; exact rsingle_bad1 w p bf nf bs root page h hp h1 h2
  · rw [e]; exact rsingle_ok w p bf nf bs root page h hp h1 h2

end Go.Proofs.Ythmombgogmgobaa
