/-
  Contracts of the document's 'guest' and Nested (package viceroyref04) over the translation: what they tell is the plain function of the memory's half words. No statement is proved here.
-/
import Derived.Test.YtknpjfbjalboeaaWalkRefS
import Derived.Test.YtknpjfbjalboeaaWalkEnt
namespace Go.Proofs.Ytknpjfbjalboeaa
open Go.RowKit

set_option maxHeartbeats 2000000 in
theorem rguest_walk (w : World) (p bf nf : Nat) (bs : List UInt8) (vm sd first second g page lvl : Int) (h : IsRef w p bf nf bs) (x : Res) (hx : granted bs nf second g 1 = x) (hk : x.ft.k ≠ 0) :
    Calls Try.prog 57 #[.pointer (some ⟨p, 0, none⟩), .agg #[.int .i64 vm, .int .i64 sd, .int .i64 first, .int .i64 second], .int .i64 g, .int .i64 page, .int .i64 lvl] w fun e w' => e = .returned (.tuple #[.agg #[.bool false, .bool false, .int .i64 0, .int .i64 0], .agg #[.int .i64 x.ft.k, .int .i64 x.ft.s, .int .i64 x.ft.l, .bool true, .int .i64 x.ft.p]]) ∧ Fr none' w w' := by
  have f1 := Fr.refl none' w
  have t2 : (x.ft.k != 0) = true := by simp [hk]
  clear hk
  have hs := fun w0 h0 => rwith_any w0 p bf nf bs second g 1 h0
  rw [hx] at hs
  clear hx
  have r6 := row_alloc w #[.int .i64 vm, .int .i64 sd, .int .i64 first, .int .i64 second] 38
  replace h := h.alloc (.cells #[.int .i64 vm, .int .i64 sd, .int .i64 first, .int .i64 second] 38)
  replace f1 := f1.alloc (.cells #[.int .i64 vm, .int .i64 sd, .int .i64 first, .int .i64 second] 38)
  have r10 := row_alloc2 w (.cells #[.int .i64 vm, .int .i64 sd, .int .i64 first, .int .i64 second] 38) #[.bool false, .bool false, .int .i64 0, .int .i64 0] 44
  replace r6 := r6.alloc (.cells #[.bool false, .bool false, .int .i64 0, .int .i64 0] 44)
  replace h := h.alloc (.cells #[.bool false, .bool false, .int .i64 0, .int .i64 0] 44)
  replace f1 := f1.alloc (.cells #[.bool false, .bool false, .int .i64 0, .int .i64 0] 44)
  have r11 := row_alloc3 w (.cells #[.int .i64 vm, .int .i64 sd, .int .i64 first, .int .i64 second] 38) (.cells #[.bool false, .bool false, .int .i64 0, .int .i64 0] 44) #[.int .i64 0, .int .i64 0, .int .i64 0, .bool false, .int .i64 0] 51
  replace r6 := r6.alloc (.cells #[.int .i64 0, .int .i64 0, .int .i64 0, .bool false, .int .i64 0] 51)
  replace r10 := r10.alloc (.cells #[.int .i64 0, .int .i64 0, .int .i64 0, .bool false, .int .i64 0] 51)
  replace h := h.alloc (.cells #[.int .i64 0, .int .i64 0, .int .i64 0, .bool false, .int .i64 0] 51)
  replace f1 := f1.alloc (.cells #[.int .i64 0, .int .i64 0, .int .i64 0, .bool false, .int .i64 0] 51)
  obtain ⟨c0x0, c0x1, c0x2, c0x3⟩ := row4 r6
  go_enter Try.func57, Try.ntmps57
  go_wp2_with fail
  refine (hs _ h).mono ?_
  rintro e v1 ⟨rfl, g1⟩
  clear c0x0 c0x1 c0x2 c0x3
  replace r6 := r6.keep g1 (fun h => h)
  replace r10 := r10.keep g1 (fun h => h)
  replace r11 := r11.keep g1 (fun h => h)
  replace h := h.keep g1 (fun h => h) (fun h => h)
  replace f1 := f1.trans g1
  clear g1
  have l1 := r11.lt
  have r14 := row_alloc v1 #[.int .i64 x.ft.k, .int .i64 x.ft.s, .int .i64 x.ft.l, .bool true, .int .i64 x.ft.p] 51
  replace r6 := r6.alloc (.cells #[.int .i64 x.ft.k, .int .i64 x.ft.s, .int .i64 x.ft.l, .bool true, .int .i64 x.ft.p] 51)
  replace r10 := r10.alloc (.cells #[.int .i64 x.ft.k, .int .i64 x.ft.s, .int .i64 x.ft.l, .bool true, .int .i64 x.ft.p] 51)
  replace r11 := r11.alloc (.cells #[.int .i64 x.ft.k, .int .i64 x.ft.s, .int .i64 x.ft.l, .bool true, .int .i64 x.ft.p] 51)
  replace h := h.alloc (.cells #[.int .i64 x.ft.k, .int .i64 x.ft.s, .int .i64 x.ft.l, .bool true, .int .i64 x.ft.p] 51)
  replace f1 := f1.alloc (.cells #[.int .i64 x.ft.k, .int .i64 x.ft.s, .int .i64 x.ft.l, .bool true, .int .i64 x.ft.p] 51)
  obtain ⟨c1x0, c1x1, c1x2, c1x3, c1x4⟩ := cells5 r14
  obtain ⟨c2x0, c2x1, c2x2, c2x3⟩ := row4 r10
  obtain ⟨z3x0, z3x1, z3x2, z3x3⟩ := frozen4 r10
  obtain ⟨c4x0, c4x1, c4x2, c4x3, c4x4⟩ := cells5 r11
  obtain ⟨z5x0, z5x1, z5x2, z5x3, z5x4⟩ := frozen5 r11
  go_wp2_with fail
  go_region
  go_wp2_with fail
  refine bodyPost_ret (ret_ef rfl rfl ((r10.put4 _ _ _ _).past5 (by omega) _ _ _ _ _).drew rfl rfl ((r11.past4 (by omega) _ _ _ _).put5 _ _ _ _ _).drew rfl) rfl ?_
  exact ⟨rfl, ((f1.put4 (Or.inl (by omega)) _ _ _ _).put5 (Or.inl (by omega)) _ _ _ _ _).drew⟩

set_option maxHeartbeats 2000000 in
theorem rguest_bad (w : World) (p bf nf : Nat) (bs : List UInt8) (vm sd first second g page lvl : Int) (h : IsRef w p bf nf bs) (x : Res) (hx : granted bs nf second g 1 = x) (hp : isP page = true) (hl : lvl = 0 ∨ lvl = 1) (hk : x.ft.k = 0) (hj : entK bs nf x.fr page lvl ≠ 0) :
    Calls Try.prog 57 #[.pointer (some ⟨p, 0, none⟩), .agg #[.int .i64 vm, .int .i64 sd, .int .i64 first, .int .i64 second], .int .i64 g, .int .i64 page, .int .i64 lvl] w fun e w' => e = .returned (.tuple #[.agg #[.bool false, .bool false, .int .i64 0, .int .i64 0], .agg #[.int .i64 (entK bs nf x.fr page lvl), .int .i64 1, .int .i64 lvl, .bool false, .int .i64 page]]) ∧ Fr none' w w' := by
  have f1 := Fr.refl none' w
  have t2 : (x.ft.k != 0) = false := by simp [hk]
  have t3 : ((entK bs nf x.fr page lvl) != 0) = true := by simp [hj]
  clear hk
  have hs := fun w0 h0 => rwith_any w0 p bf nf bs second g 1 h0
  rw [hx] at hs
  clear hx
  have r6 := row_alloc w #[.int .i64 vm, .int .i64 sd, .int .i64 first, .int .i64 second] 38
  replace h := h.alloc (.cells #[.int .i64 vm, .int .i64 sd, .int .i64 first, .int .i64 second] 38)
  replace f1 := f1.alloc (.cells #[.int .i64 vm, .int .i64 sd, .int .i64 first, .int .i64 second] 38)
  have r10 := row_alloc2 w (.cells #[.int .i64 vm, .int .i64 sd, .int .i64 first, .int .i64 second] 38) #[.bool false, .bool false, .int .i64 0, .int .i64 0] 44
  replace r6 := r6.alloc (.cells #[.bool false, .bool false, .int .i64 0, .int .i64 0] 44)
  replace h := h.alloc (.cells #[.bool false, .bool false, .int .i64 0, .int .i64 0] 44)
  replace f1 := f1.alloc (.cells #[.bool false, .bool false, .int .i64 0, .int .i64 0] 44)
  have r11 := row_alloc3 w (.cells #[.int .i64 vm, .int .i64 sd, .int .i64 first, .int .i64 second] 38) (.cells #[.bool false, .bool false, .int .i64 0, .int .i64 0] 44) #[.int .i64 0, .int .i64 0, .int .i64 0, .bool false, .int .i64 0] 51
  replace r6 := r6.alloc (.cells #[.int .i64 0, .int .i64 0, .int .i64 0, .bool false, .int .i64 0] 51)
  replace r10 := r10.alloc (.cells #[.int .i64 0, .int .i64 0, .int .i64 0, .bool false, .int .i64 0] 51)
  replace h := h.alloc (.cells #[.int .i64 0, .int .i64 0, .int .i64 0, .bool false, .int .i64 0] 51)
  replace f1 := f1.alloc (.cells #[.int .i64 0, .int .i64 0, .int .i64 0, .bool false, .int .i64 0] 51)
  obtain ⟨c0x0, c0x1, c0x2, c0x3⟩ := row4 r6
  go_enter Try.func57, Try.ntmps57
  go_wp2_with fail
  refine (hs _ h).mono ?_
  rintro e v1 ⟨rfl, g1⟩
  clear c0x0 c0x1 c0x2 c0x3
  replace r6 := r6.keep g1 (fun h => h)
  replace r10 := r10.keep g1 (fun h => h)
  replace r11 := r11.keep g1 (fun h => h)
  replace h := h.keep g1 (fun h => h) (fun h => h)
  replace f1 := f1.trans g1
  clear g1
  have r14 := row_alloc v1 #[.int .i64 x.ft.k, .int .i64 x.ft.s, .int .i64 x.ft.l, .bool x.ft.wk, .int .i64 x.ft.p] 51
  replace r6 := r6.alloc (.cells #[.int .i64 x.ft.k, .int .i64 x.ft.s, .int .i64 x.ft.l, .bool x.ft.wk, .int .i64 x.ft.p] 51)
  replace r10 := r10.alloc (.cells #[.int .i64 x.ft.k, .int .i64 x.ft.s, .int .i64 x.ft.l, .bool x.ft.wk, .int .i64 x.ft.p] 51)
  replace r11 := r11.alloc (.cells #[.int .i64 x.ft.k, .int .i64 x.ft.s, .int .i64 x.ft.l, .bool x.ft.wk, .int .i64 x.ft.p] 51)
  replace h := h.alloc (.cells #[.int .i64 x.ft.k, .int .i64 x.ft.s, .int .i64 x.ft.l, .bool x.ft.wk, .int .i64 x.ft.p] 51)
  replace f1 := f1.alloc (.cells #[.int .i64 x.ft.k, .int .i64 x.ft.s, .int .i64 x.ft.l, .bool x.ft.wk, .int .i64 x.ft.p] 51)
  obtain ⟨c1x0, c1x1, c1x2, c1x3, c1x4⟩ := cells5 r14
  go_wp2_with fail
  refine (rentry_bad _ _ _ _ _ _ _ _ h hp hl hj).mono ?_
  rintro e v2 ⟨rfl, g2⟩
  clear c1x0 c1x1 c1x2 c1x3 c1x4
  replace r6 := r6.keep g2 (fun h => h)
  replace r10 := r10.keep g2 (fun h => h)
  replace r11 := r11.keep g2 (fun h => h)
  replace r14 := r14.keep g2 (fun h => h)
  replace h := h.keep g2 (fun h => h) (fun h => h)
  replace f1 := f1.trans g2
  clear g2
  have r15 := row_alloc v2 #[.bool false, .bool false, .int .i64 0, .int .i64 0] 44
  replace r6 := r6.alloc (.cells #[.bool false, .bool false, .int .i64 0, .int .i64 0] 44)
  replace r10 := r10.alloc (.cells #[.bool false, .bool false, .int .i64 0, .int .i64 0] 44)
  replace r11 := r11.alloc (.cells #[.bool false, .bool false, .int .i64 0, .int .i64 0] 44)
  replace r14 := r14.alloc (.cells #[.bool false, .bool false, .int .i64 0, .int .i64 0] 44)
  replace h := h.alloc (.cells #[.bool false, .bool false, .int .i64 0, .int .i64 0] 44)
  replace f1 := f1.alloc (.cells #[.bool false, .bool false, .int .i64 0, .int .i64 0] 44)
  obtain ⟨c2x0, c2x1, c2x2, c2x3⟩ := row4 r10
  obtain ⟨z3x0, z3x1, z3x2, z3x3⟩ := frozen4 r10
  obtain ⟨c4x0, c4x1, c4x2, c4x3, c4x4⟩ := cells5 r11
  obtain ⟨z5x0, z5x1, z5x2, z5x3, z5x4⟩ := frozen5 r11
  go_wp2_with fail
  refine bodyPost_ret (ret_ef rfl rfl ((r10.put4 _ _ _ _).past5 (by omega) _ _ _ _ _) rfl rfl ((r11.past4 (by omega) _ _ _ _).put5 _ _ _ _ _) rfl) rfl ?_
  exact ⟨rfl, ((f1.put4 (Or.inl (by omega)) _ _ _ _).put5 (Or.inl (by omega)) _ _ _ _ _)⟩

set_option maxHeartbeats 2000000 in
theorem rguest_ok (w : World) (p bf nf : Nat) (bs : List UInt8) (vm sd first second g page lvl : Int) (h : IsRef w p bf nf bs) (x : Res) (hx : granted bs nf second g 1 = x) (hp : isP page = true) (hl : lvl = 0 ∨ lvl = 1) (hk : x.ft.k = 0) (hj : entK bs nf x.fr page lvl = 0) :
    Calls Try.prog 57 #[.pointer (some ⟨p, 0, none⟩), .agg #[.int .i64 vm, .int .i64 sd, .int .i64 first, .int .i64 second], .int .i64 g, .int .i64 page, .int .i64 lvl] w fun e w' => e = .returned (.tuple #[.agg #[.bool true, .bool (decide (lvl = 1)), .int .i64 (dr (ew bs x.fr page lvl)), .int .i64 (df (ew bs x.fr page lvl))], .agg #[.int .i64 0, .int .i64 0, .int .i64 0, .bool false, .int .i64 0]]) ∧ Fr none' w w' := by
  have f1 := Fr.refl none' w
  have t2 : (x.ft.k != 0) = false := by simp [hk]
  clear hk
  have hs := fun w0 h0 => rwith_any w0 p bf nf bs second g 1 h0
  rw [hx] at hs
  clear hx
  have r6 := row_alloc w #[.int .i64 vm, .int .i64 sd, .int .i64 first, .int .i64 second] 38
  replace h := h.alloc (.cells #[.int .i64 vm, .int .i64 sd, .int .i64 first, .int .i64 second] 38)
  replace f1 := f1.alloc (.cells #[.int .i64 vm, .int .i64 sd, .int .i64 first, .int .i64 second] 38)
  have r10 := row_alloc2 w (.cells #[.int .i64 vm, .int .i64 sd, .int .i64 first, .int .i64 second] 38) #[.bool false, .bool false, .int .i64 0, .int .i64 0] 44
  replace r6 := r6.alloc (.cells #[.bool false, .bool false, .int .i64 0, .int .i64 0] 44)
  replace h := h.alloc (.cells #[.bool false, .bool false, .int .i64 0, .int .i64 0] 44)
  replace f1 := f1.alloc (.cells #[.bool false, .bool false, .int .i64 0, .int .i64 0] 44)
  have r11 := row_alloc3 w (.cells #[.int .i64 vm, .int .i64 sd, .int .i64 first, .int .i64 second] 38) (.cells #[.bool false, .bool false, .int .i64 0, .int .i64 0] 44) #[.int .i64 0, .int .i64 0, .int .i64 0, .bool false, .int .i64 0] 51
  replace r6 := r6.alloc (.cells #[.int .i64 0, .int .i64 0, .int .i64 0, .bool false, .int .i64 0] 51)
  replace r10 := r10.alloc (.cells #[.int .i64 0, .int .i64 0, .int .i64 0, .bool false, .int .i64 0] 51)
  replace h := h.alloc (.cells #[.int .i64 0, .int .i64 0, .int .i64 0, .bool false, .int .i64 0] 51)
  replace f1 := f1.alloc (.cells #[.int .i64 0, .int .i64 0, .int .i64 0, .bool false, .int .i64 0] 51)
  obtain ⟨c0x0, c0x1, c0x2, c0x3⟩ := row4 r6
  go_enter Try.func57, Try.ntmps57
  go_wp2_with fail
  refine (hs _ h).mono ?_
  rintro e v1 ⟨rfl, g1⟩
  clear c0x0 c0x1 c0x2 c0x3
  replace r6 := r6.keep g1 (fun h => h)
  replace r10 := r10.keep g1 (fun h => h)
  replace r11 := r11.keep g1 (fun h => h)
  replace h := h.keep g1 (fun h => h) (fun h => h)
  replace f1 := f1.trans g1
  clear g1
  have r14 := row_alloc v1 #[.int .i64 x.ft.k, .int .i64 x.ft.s, .int .i64 x.ft.l, .bool x.ft.wk, .int .i64 x.ft.p] 51
  replace r6 := r6.alloc (.cells #[.int .i64 x.ft.k, .int .i64 x.ft.s, .int .i64 x.ft.l, .bool x.ft.wk, .int .i64 x.ft.p] 51)
  replace r10 := r10.alloc (.cells #[.int .i64 x.ft.k, .int .i64 x.ft.s, .int .i64 x.ft.l, .bool x.ft.wk, .int .i64 x.ft.p] 51)
  replace r11 := r11.alloc (.cells #[.int .i64 x.ft.k, .int .i64 x.ft.s, .int .i64 x.ft.l, .bool x.ft.wk, .int .i64 x.ft.p] 51)
  replace h := h.alloc (.cells #[.int .i64 x.ft.k, .int .i64 x.ft.s, .int .i64 x.ft.l, .bool x.ft.wk, .int .i64 x.ft.p] 51)
  replace f1 := f1.alloc (.cells #[.int .i64 x.ft.k, .int .i64 x.ft.s, .int .i64 x.ft.l, .bool x.ft.wk, .int .i64 x.ft.p] 51)
  obtain ⟨c1x0, c1x1, c1x2, c1x3, c1x4⟩ := cells5 r14
  go_wp2_with fail
  refine (rentry_ok _ _ _ _ _ _ _ _ h hp hl hj).mono ?_
  rintro e v2 ⟨rfl, g2⟩
  clear c1x0 c1x1 c1x2 c1x3 c1x4
  replace r6 := r6.keep g2 (fun h => h)
  replace r10 := r10.keep g2 (fun h => h)
  replace r11 := r11.keep g2 (fun h => h)
  replace r14 := r14.keep g2 (fun h => h)
  replace h := h.keep g2 (fun h => h) (fun h => h)
  replace f1 := f1.trans g2
  clear g2
  have r15 := row_alloc v2 #[.bool true, .bool (decide (lvl = 1)), .int .i64 (dr (ew bs x.fr page lvl)), .int .i64 (df (ew bs x.fr page lvl))] 44
  replace r6 := r6.alloc (.cells #[.bool true, .bool (decide (lvl = 1)), .int .i64 (dr (ew bs x.fr page lvl)), .int .i64 (df (ew bs x.fr page lvl))] 44)
  replace r10 := r10.alloc (.cells #[.bool true, .bool (decide (lvl = 1)), .int .i64 (dr (ew bs x.fr page lvl)), .int .i64 (df (ew bs x.fr page lvl))] 44)
  replace r11 := r11.alloc (.cells #[.bool true, .bool (decide (lvl = 1)), .int .i64 (dr (ew bs x.fr page lvl)), .int .i64 (df (ew bs x.fr page lvl))] 44)
  replace r14 := r14.alloc (.cells #[.bool true, .bool (decide (lvl = 1)), .int .i64 (dr (ew bs x.fr page lvl)), .int .i64 (df (ew bs x.fr page lvl))] 44)
  replace h := h.alloc (.cells #[.bool true, .bool (decide (lvl = 1)), .int .i64 (dr (ew bs x.fr page lvl)), .int .i64 (df (ew bs x.fr page lvl))] 44)
  replace f1 := f1.alloc (.cells #[.bool true, .bool (decide (lvl = 1)), .int .i64 (dr (ew bs x.fr page lvl)), .int .i64 (df (ew bs x.fr page lvl))] 44)
  obtain ⟨c2x0, c2x1, c2x2, c2x3⟩ := row4 r15
  obtain ⟨c3x0, c3x1, c3x2, c3x3⟩ := row4 r10
  obtain ⟨z4x0, z4x1, z4x2, z4x3⟩ := frozen4 r10
  obtain ⟨c5x0, c5x1, c5x2, c5x3, c5x4⟩ := cells5 r11
  obtain ⟨z6x0, z6x1, z6x2, z6x3, z6x4⟩ := frozen5 r11
  go_wp2_with fail
  refine bodyPost_ret (ret_ef rfl rfl ((r10.put4 _ _ _ _).past5 (by omega) _ _ _ _ _) rfl rfl ((r11.past4 (by omega) _ _ _ _).put5 _ _ _ _ _) rfl) rfl ?_
  exact ⟨rfl, ((f1.put4 (Or.inl (by omega)) _ _ _ _).put5 (Or.inl (by omega)) _ _ _ _ _)⟩

theorem rguest_no (w : World) (p bf nf : Nat) (bs : List UInt8) (vm sd first second g page lvl : Int) (h : IsRef w p bf nf bs) (hp : isP page = true) (hl : lvl = 0 ∨ lvl = 1) (hk : (guest bs nf second g page lvl).ft.k ≠ 0) :
    Calls Try.prog 57 #[.pointer (some ⟨p, 0, none⟩), .agg #[.int .i64 vm, .int .i64 sd, .int .i64 first, .int .i64 second], .int .i64 g, .int .i64 page, .int .i64 lvl] w fun e w' => e = .returned (.tuple #[.agg #[.bool false, .bool false, .int .i64 0, .int .i64 0], .agg #[.int .i64 (guest bs nf second g page lvl).ft.k, .int .i64 (guest bs nf second g page lvl).ft.s, .int .i64 (guest bs nf second g page lvl).ft.l, .bool (guest bs nf second g page lvl).ft.wk, .int .i64 (guest bs nf second g page lvl).ft.p]]) ∧ Fr none' w w' := by
  rcases guest_cases bs nf second g page lvl with ⟨h1, e⟩ | ⟨h1, h2, e⟩ | ⟨_, _, e⟩
  · rw [e]
    rcases lies_cases bs nf second g with ⟨h3, e'⟩ | ⟨h3, e'⟩
    · rw [e']; exact rguest_walk w p bf nf bs vm sd first second g page lvl h (granted bs nf second g 1) rfl h3
    · rw [e'] at h1; exact absurd h3 h1
  · rw [e]
    rcases lies_cases bs nf second g with ⟨h3, e'⟩ | ⟨h3, e'⟩
    · rw [e'] at h1; exact absurd h1 h3
    · rw [e'] at h2 ⊢; exact rguest_bad w p bf nf bs vm sd first second g page lvl h _ rfl hp hl h3 h2
  · rw [e] at hk; exact absurd rfl hk

theorem rguest_yes (w : World) (p bf nf : Nat) (bs : List UInt8) (vm sd first second g page lvl : Int) (h : IsRef w p bf nf bs) (hp : isP page = true) (hl : lvl = 0 ∨ lvl = 1) (hk : (guest bs nf second g page lvl).ft.k = 0) :
    Calls Try.prog 57 #[.pointer (some ⟨p, 0, none⟩), .agg #[.int .i64 vm, .int .i64 sd, .int .i64 first, .int .i64 second], .int .i64 g, .int .i64 page, .int .i64 lvl] w fun e w' => e = .returned (.tuple #[.agg #[.bool true, .bool (decide (lvl = 1)), .int .i64 (guest bs nf second g page lvl).ri, .int .i64 (guest bs nf second g page lvl).fr], .agg #[.int .i64 0, .int .i64 0, .int .i64 0, .bool false, .int .i64 0]]) ∧ Fr none' w w' := by
  rcases guest_cases bs nf second g page lvl with ⟨h1, e⟩ | ⟨h1, h2, e⟩ | ⟨h1, h2, e⟩
  · rw [e] at hk; exact absurd hk h1
  · rw [e] at hk; exact absurd hk h2
  · rw [e]
    rcases lies_cases bs nf second g with ⟨h3, e'⟩ | ⟨h3, e'⟩
    · rw [e'] at h1; exact absurd h1 h3
    · rw [e'] at h2 ⊢; exact rguest_ok w p bf nf bs vm sd first second g page lvl h _ rfl hp hl h3 h2

set_option maxHeartbeats 1000000 in
theorem rnested_lo (w : World) (p : Nat) (vm sd first second page want : Int) (hp : page < 0) :
    Calls Try.prog 32 #[.pointer (some ⟨p, 0, none⟩), .agg #[.int .i64 vm, .int .i64 sd, .int .i64 first, .int .i64 second], .int .i64 page, .int .i64 want] w fun e w' => e = .returned (.tuple #[.int .i64 0, .int .i64 0, .agg #[.int .i64 3, .int .i64 0, .int .i64 0, .bool false, .int .i64 0]]) ∧ Fr none' w w' := by
  have t0 : decide (page < 0) = true := decide_eq_true hp
  go_enter Try.func32, Try.ntmps32
  go_wp2_with fail
  refine bodyPost_ret (ret_ttf rfl rfl (row_alloc2 _ _ _ _) rfl) rfl ?_
  exact ⟨rfl, ((Fr.refl _ _).alloc _).alloc _⟩

set_option maxHeartbeats 1000000 in
theorem rnested_hi (w : World) (p : Nat) (vm sd first second page want : Int) (h0 : ¬ page < 0) (hp : 1023 < page) :
    Calls Try.prog 32 #[.pointer (some ⟨p, 0, none⟩), .agg #[.int .i64 vm, .int .i64 sd, .int .i64 first, .int .i64 second], .int .i64 page, .int .i64 want] w fun e w' => e = .returned (.tuple #[.int .i64 0, .int .i64 0, .agg #[.int .i64 3, .int .i64 0, .int .i64 0, .bool false, .int .i64 0]]) ∧ Fr none' w w' := by
  have t0 : decide (page < 0) = false := decide_eq_false h0
  have t1 : decide (1023 < page) = true := decide_eq_true hp
  go_enter Try.func32, Try.ntmps32
  go_wp2_with fail
  refine bodyPost_ret (ret_ttf rfl rfl (row_alloc2 _ _ _ _) rfl) rfl ?_
  exact ⟨rfl, ((Fr.refl _ _).alloc _).alloc _⟩

set_option maxHeartbeats 1000000 in
theorem rnested_w (w : World) (p : Nat) (vm sd first second page want : Int) (h0 : ¬ page < 0) (h1 : ¬ 1023 < page) (hw : isR want = false) :
    Calls Try.prog 32 #[.pointer (some ⟨p, 0, none⟩), .agg #[.int .i64 vm, .int .i64 sd, .int .i64 first, .int .i64 second], .int .i64 page, .int .i64 want] w fun e w' => e = .returned (.tuple #[.int .i64 0, .int .i64 0, .agg #[.int .i64 3, .int .i64 0, .int .i64 0, .bool false, .int .i64 0]]) ∧ Fr none' w w' := by
  have t0 : decide (page < 0) = false := decide_eq_false h0
  have t1 : decide (1023 < page) = false := decide_eq_false h1
  have hn : ¬ (want = 1 ∨ want = 2 ∨ want = 4) := fun hh => by rw [isR_iff.2 hh] at hw; exact absurd hw (by decide)
  have q1 : (want != 1) = true := by simp; omega
  have q2 : (want != 2) = true := by simp; omega
  have q3 : (want != 4) = true := by simp; omega
  clear hw hn
  go_enter Try.func32, Try.ntmps32
  go_wp2_with fail
  refine bodyPost_ret (ret_ttf rfl rfl (row_alloc2 _ _ _ _) rfl) rfl ?_
  exact ⟨rfl, ((Fr.refl _ _).alloc _).alloc _⟩

set_option maxHeartbeats 4000000 in
theorem rnested_plain (w : World) (p bf nf : Nat) (bs : List UInt8) (vm sd first second page want : Int) (h : IsRef w p bf nf bs) (hp : isP page = true) (hw : isR want = true) (hf : first < 0) (x : Res) (hx : granted bs nf second page want = x) :
    Calls Try.prog 32 #[.pointer (some ⟨p, 0, none⟩), .agg #[.int .i64 vm, .int .i64 sd, .int .i64 first, .int .i64 second], .int .i64 page, .int .i64 want] w fun e w' => e = .returned (.tuple #[.int .i64 x.fr, .int .i64 x.ri, .agg #[.int .i64 x.ft.k, .int .i64 x.ft.s, .int .i64 x.ft.l, .bool x.ft.wk, .int .i64 x.ft.p]]) ∧ Fr none' w w' := by
  have t0 : decide (page < 0) = false := decide_eq_false (by have := isP_iff.1 hp; omega)
  have t1 : decide (1023 < page) = false := decide_eq_false (by have := isP_iff.1 hp; omega)
  have hw3 : (want != 1) = false ∨ ((want != 1) = true ∧ (want != 2) = false) ∨ ((want != 1) = true ∧ (want != 2) = true ∧ (want != 4) = false) := by
    rcases isR_iff.1 hw with rfl | rfl | rfl <;> simp
  clear hw
  have t2 : decide (first < 0) = true := decide_eq_true hf
  have hs := fun w0 h0 => rwith_any w0 p bf nf bs second page want h0
  rw [hx] at hs
  clear hx hf
  have f1 := Fr.refl none' w
  have r5 := row_alloc w #[.int .i64 vm, .int .i64 sd, .int .i64 first, .int .i64 second] 38
  replace h := h.alloc (.cells #[.int .i64 vm, .int .i64 sd, .int .i64 first, .int .i64 second] 38)
  replace f1 := f1.alloc (.cells #[.int .i64 vm, .int .i64 sd, .int .i64 first, .int .i64 second] 38)
  have r10 := row_alloc2 w (.cells #[.int .i64 vm, .int .i64 sd, .int .i64 first, .int .i64 second] 38) #[.int .i64 0, .int .i64 0, .int .i64 0, .bool false, .int .i64 0] 51
  replace r5 := r5.alloc (.cells #[.int .i64 0, .int .i64 0, .int .i64 0, .bool false, .int .i64 0] 51)
  replace h := h.alloc (.cells #[.int .i64 0, .int .i64 0, .int .i64 0, .bool false, .int .i64 0] 51)
  replace f1 := f1.alloc (.cells #[.int .i64 0, .int .i64 0, .int .i64 0, .bool false, .int .i64 0] 51)
  obtain ⟨c0x0, c0x1, c0x2, c0x3⟩ := row4 r5
  rcases hw3 with q1 | ⟨q1, q2⟩ | ⟨q1, q2, q3⟩
  all_goals
    go_enter Try.func32, Try.ntmps32
    go_wp2_with fail
    refine (hs _ h).mono ?_
    rintro e v1 ⟨rfl, g1⟩
    clear c0x0 c0x1 c0x2 c0x3
    replace r5 := r5.keep g1 (fun h => h)
    replace r10 := r10.keep g1 (fun h => h)
    replace h := h.keep g1 (fun h => h) (fun h => h)
    replace f1 := f1.trans g1
    clear g1
    obtain ⟨c1x0, c1x1, c1x2, c1x3, c1x4⟩ := cells5 r10
    obtain ⟨z2x0, z2x1, z2x2, z2x3, z2x4⟩ := frozen5 r10
    go_wp2_with fail
    refine bodyPost_ret (ret_ttf rfl rfl (r10.put5 _ _ _ _ _) rfl) rfl ?_
    exact ⟨rfl, f1.put5 (Or.inl (by omega)) _ _ _ _ _⟩

set_option maxHeartbeats 4000000 in
theorem rnested_g0 (w : World) (p bf nf : Nat) (bs : List UInt8) (vm sd first second page want : Int) (h : IsRef w p bf nf bs) (hp : isP page = true) (hw : isR want = true) (hf : ¬ first < 0) (x : Res) (hx : guest bs nf second first page 0 = x) (hk : x.ft.k ≠ 0) :
    Calls Try.prog 32 #[.pointer (some ⟨p, 0, none⟩), .agg #[.int .i64 vm, .int .i64 sd, .int .i64 first, .int .i64 second], .int .i64 page, .int .i64 want] w fun e w' => e = .returned (.tuple #[.int .i64 0, .int .i64 0, .agg #[.int .i64 x.ft.k, .int .i64 x.ft.s, .int .i64 x.ft.l, .bool x.ft.wk, .int .i64 x.ft.p]]) ∧ Fr none' w w' := by
  have t0 : decide (page < 0) = false := decide_eq_false (by have := isP_iff.1 hp; omega)
  have t1 : decide (1023 < page) = false := decide_eq_false (by have := isP_iff.1 hp; omega)
  have hw3 : (want != 1) = false ∨ ((want != 1) = true ∧ (want != 2) = false) ∨ ((want != 1) = true ∧ (want != 2) = true ∧ (want != 4) = false) := by
    rcases isR_iff.1 hw with rfl | rfl | rfl <;> simp
  clear hw
  have t2 : decide (first < 0) = false := decide_eq_false (by omega)
  have hs := fun w0 h0 => rguest_no w0 p bf nf bs vm sd first second first page 0 h0 hp (Or.inl rfl) (by rw [hx]; exact hk)
  rw [hx] at hs
  have t3 : (x.ft.k != 0) = true := by simp [hk]
  clear hx hf hk
  have f1 := Fr.refl none' w
  have r5 := row_alloc w #[.int .i64 vm, .int .i64 sd, .int .i64 first, .int .i64 second] 38
  replace h := h.alloc (.cells #[.int .i64 vm, .int .i64 sd, .int .i64 first, .int .i64 second] 38)
  replace f1 := f1.alloc (.cells #[.int .i64 vm, .int .i64 sd, .int .i64 first, .int .i64 second] 38)
  have r10 := row_alloc2 w (.cells #[.int .i64 vm, .int .i64 sd, .int .i64 first, .int .i64 second] 38) #[.int .i64 0, .int .i64 0, .int .i64 0, .bool false, .int .i64 0] 51
  replace r5 := r5.alloc (.cells #[.int .i64 0, .int .i64 0, .int .i64 0, .bool false, .int .i64 0] 51)
  replace h := h.alloc (.cells #[.int .i64 0, .int .i64 0, .int .i64 0, .bool false, .int .i64 0] 51)
  replace f1 := f1.alloc (.cells #[.int .i64 0, .int .i64 0, .int .i64 0, .bool false, .int .i64 0] 51)
  obtain ⟨c0x0, c0x1, c0x2, c0x3⟩ := row4 r5
  rcases hw3 with q1 | ⟨q1, q2⟩ | ⟨q1, q2, q3⟩
  all_goals
    go_enter Try.func32, Try.ntmps32
    go_wp2_with fail
    refine (hs _ h).mono ?_
    rintro e v1 ⟨rfl, g1⟩
    clear c0x0 c0x1 c0x2 c0x3
    replace r5 := r5.keep g1 (fun h => h)
    replace r10 := r10.keep g1 (fun h => h)
    replace h := h.keep g1 (fun h => h) (fun h => h)
    replace f1 := f1.trans g1
    clear g1
    have r11 := row_alloc v1 #[.bool false, .bool false, .int .i64 0, .int .i64 0] 44
    replace r5 := r5.alloc (.cells #[.bool false, .bool false, .int .i64 0, .int .i64 0] 44)
    replace r10 := r10.alloc (.cells #[.bool false, .bool false, .int .i64 0, .int .i64 0] 44)
    replace h := h.alloc (.cells #[.bool false, .bool false, .int .i64 0, .int .i64 0] 44)
    replace f1 := f1.alloc (.cells #[.bool false, .bool false, .int .i64 0, .int .i64 0] 44)
    have r12 := row_alloc2 v1 (.cells #[.bool false, .bool false, .int .i64 0, .int .i64 0] 44) #[.int .i64 x.ft.k, .int .i64 x.ft.s, .int .i64 x.ft.l, .bool x.ft.wk, .int .i64 x.ft.p] 51
    replace r5 := r5.alloc (.cells #[.int .i64 x.ft.k, .int .i64 x.ft.s, .int .i64 x.ft.l, .bool x.ft.wk, .int .i64 x.ft.p] 51)
    replace r10 := r10.alloc (.cells #[.int .i64 x.ft.k, .int .i64 x.ft.s, .int .i64 x.ft.l, .bool x.ft.wk, .int .i64 x.ft.p] 51)
    replace r11 := r11.alloc (.cells #[.int .i64 x.ft.k, .int .i64 x.ft.s, .int .i64 x.ft.l, .bool x.ft.wk, .int .i64 x.ft.p] 51)
    replace h := h.alloc (.cells #[.int .i64 x.ft.k, .int .i64 x.ft.s, .int .i64 x.ft.l, .bool x.ft.wk, .int .i64 x.ft.p] 51)
    replace f1 := f1.alloc (.cells #[.int .i64 x.ft.k, .int .i64 x.ft.s, .int .i64 x.ft.l, .bool x.ft.wk, .int .i64 x.ft.p] 51)
    obtain ⟨c1x0, c1x1, c1x2, c1x3, c1x4⟩ := cells5 r12
    obtain ⟨c2x0, c2x1, c2x2, c2x3, c2x4⟩ := cells5 r10
    obtain ⟨z3x0, z3x1, z3x2, z3x3, z3x4⟩ := frozen5 r10
    go_wp2_with fail
    go_region
    go_wp2_with fail
    refine bodyPost_ret (ret_ttf rfl rfl (r10.put5 _ _ _ _ _).drew rfl) rfl ?_
    exact ⟨rfl, (f1.put5 (Or.inl (by omega)) _ _ _ _ _).drew⟩

set_option maxHeartbeats 4000000 in
theorem rnested_g1 (w : World) (p bf nf : Nat) (bs : List UInt8) (vm sd first second page want : Int) (h : IsRef w p bf nf bs) (hp : isP page = true) (hw : isR want = true) (hf : ¬ first < 0) (x : Res) (hx : guest bs nf second first page 0 = x) (hk : x.ft.k = 0) (y : Res) (hy : guest bs nf second x.fr page 1 = y) (hj : y.ft.k ≠ 0) :
    Calls Try.prog 32 #[.pointer (some ⟨p, 0, none⟩), .agg #[.int .i64 vm, .int .i64 sd, .int .i64 first, .int .i64 second], .int .i64 page, .int .i64 want] w fun e w' => e = .returned (.tuple #[.int .i64 0, .int .i64 0, .agg #[.int .i64 y.ft.k, .int .i64 y.ft.s, .int .i64 y.ft.l, .bool y.ft.wk, .int .i64 y.ft.p]]) ∧ Fr none' w w' := by
  have t0 : decide (page < 0) = false := decide_eq_false (by have := isP_iff.1 hp; omega)
  have t1 : decide (1023 < page) = false := decide_eq_false (by have := isP_iff.1 hp; omega)
  have hw3 : (want != 1) = false ∨ ((want != 1) = true ∧ (want != 2) = false) ∨ ((want != 1) = true ∧ (want != 2) = true ∧ (want != 4) = false) := by
    rcases isR_iff.1 hw with rfl | rfl | rfl <;> simp
  clear hw
  have t2 : decide (first < 0) = false := decide_eq_false (by omega)
  have hs := fun w0 h0 => rguest_yes w0 p bf nf bs vm sd first second first page 0 h0 hp (Or.inl rfl) (by rw [hx]; exact hk)
  rw [hx] at hs
  clear hx hf hk
  have hs2 := fun w0 h0 => rguest_no w0 p bf nf bs vm sd first second x.fr page 1 h0 hp (Or.inr rfl) (by rw [hy]; exact hj)
  rw [hy] at hs2
  have t3 : (y.ft.k != 0) = true := by simp [hj]
  clear hy hj
  have f1 := Fr.refl none' w
  have r5 := row_alloc w #[.int .i64 vm, .int .i64 sd, .int .i64 first, .int .i64 second] 38
  replace h := h.alloc (.cells #[.int .i64 vm, .int .i64 sd, .int .i64 first, .int .i64 second] 38)
  replace f1 := f1.alloc (.cells #[.int .i64 vm, .int .i64 sd, .int .i64 first, .int .i64 second] 38)
  have r10 := row_alloc2 w (.cells #[.int .i64 vm, .int .i64 sd, .int .i64 first, .int .i64 second] 38) #[.int .i64 0, .int .i64 0, .int .i64 0, .bool false, .int .i64 0] 51
  replace r5 := r5.alloc (.cells #[.int .i64 0, .int .i64 0, .int .i64 0, .bool false, .int .i64 0] 51)
  replace h := h.alloc (.cells #[.int .i64 0, .int .i64 0, .int .i64 0, .bool false, .int .i64 0] 51)
  replace f1 := f1.alloc (.cells #[.int .i64 0, .int .i64 0, .int .i64 0, .bool false, .int .i64 0] 51)
  obtain ⟨c0x0, c0x1, c0x2, c0x3⟩ := row4 r5
  rcases hw3 with q1 | ⟨q1, q2⟩ | ⟨q1, q2, q3⟩
  all_goals
    go_enter Try.func32, Try.ntmps32
    go_wp2_with fail
    refine (hs _ h).mono ?_
    rintro e v1 ⟨rfl, g1⟩
    clear c0x0 c0x1 c0x2 c0x3
    replace r5 := r5.keep g1 (fun h => h)
    replace r10 := r10.keep g1 (fun h => h)
    replace h := h.keep g1 (fun h => h) (fun h => h)
    replace f1 := f1.trans g1
    clear g1
    have r11 := row_alloc v1 #[.bool true, .bool false, .int .i64 x.ri, .int .i64 x.fr] 44
    replace r5 := r5.alloc (.cells #[.bool true, .bool false, .int .i64 x.ri, .int .i64 x.fr] 44)
    replace r10 := r10.alloc (.cells #[.bool true, .bool false, .int .i64 x.ri, .int .i64 x.fr] 44)
    replace h := h.alloc (.cells #[.bool true, .bool false, .int .i64 x.ri, .int .i64 x.fr] 44)
    replace f1 := f1.alloc (.cells #[.bool true, .bool false, .int .i64 x.ri, .int .i64 x.fr] 44)
    have r12 := row_alloc2 v1 (.cells #[.bool true, .bool false, .int .i64 x.ri, .int .i64 x.fr] 44) #[.int .i64 0, .int .i64 0, .int .i64 0, .bool false, .int .i64 0] 51
    replace r5 := r5.alloc (.cells #[.int .i64 0, .int .i64 0, .int .i64 0, .bool false, .int .i64 0] 51)
    replace r10 := r10.alloc (.cells #[.int .i64 0, .int .i64 0, .int .i64 0, .bool false, .int .i64 0] 51)
    replace r11 := r11.alloc (.cells #[.int .i64 0, .int .i64 0, .int .i64 0, .bool false, .int .i64 0] 51)
    replace h := h.alloc (.cells #[.int .i64 0, .int .i64 0, .int .i64 0, .bool false, .int .i64 0] 51)
    replace f1 := f1.alloc (.cells #[.int .i64 0, .int .i64 0, .int .i64 0, .bool false, .int .i64 0] 51)
    obtain ⟨c1x0, c1x1, c1x2, c1x3⟩ := row4 r5
    obtain ⟨c2x0, c2x1, c2x2, c2x3⟩ := row4 r11
    obtain ⟨c3x0, c3x1, c3x2, c3x3, c3x4⟩ := cells5 r12
    go_wp2_with fail
    refine (hs2 _ h).mono ?_
    rintro e v2 ⟨rfl, g2⟩
    clear c1x0 c1x1 c1x2 c1x3 c2x0 c2x1 c2x2 c2x3 c3x0 c3x1 c3x2 c3x3 c3x4
    replace r5 := r5.keep g2 (fun h => h)
    replace r10 := r10.keep g2 (fun h => h)
    replace r11 := r11.keep g2 (fun h => h)
    replace r12 := r12.keep g2 (fun h => h)
    replace h := h.keep g2 (fun h => h) (fun h => h)
    replace f1 := f1.trans g2
    clear g2
    have r13 := row_alloc v2 #[.bool false, .bool false, .int .i64 0, .int .i64 0] 44
    replace r5 := r5.alloc (.cells #[.bool false, .bool false, .int .i64 0, .int .i64 0] 44)
    replace r10 := r10.alloc (.cells #[.bool false, .bool false, .int .i64 0, .int .i64 0] 44)
    replace r11 := r11.alloc (.cells #[.bool false, .bool false, .int .i64 0, .int .i64 0] 44)
    replace r12 := r12.alloc (.cells #[.bool false, .bool false, .int .i64 0, .int .i64 0] 44)
    replace h := h.alloc (.cells #[.bool false, .bool false, .int .i64 0, .int .i64 0] 44)
    replace f1 := f1.alloc (.cells #[.bool false, .bool false, .int .i64 0, .int .i64 0] 44)
    have r14 := row_alloc2 v2 (.cells #[.bool false, .bool false, .int .i64 0, .int .i64 0] 44) #[.int .i64 y.ft.k, .int .i64 y.ft.s, .int .i64 y.ft.l, .bool y.ft.wk, .int .i64 y.ft.p] 51
    replace r5 := r5.alloc (.cells #[.int .i64 y.ft.k, .int .i64 y.ft.s, .int .i64 y.ft.l, .bool y.ft.wk, .int .i64 y.ft.p] 51)
    replace r10 := r10.alloc (.cells #[.int .i64 y.ft.k, .int .i64 y.ft.s, .int .i64 y.ft.l, .bool y.ft.wk, .int .i64 y.ft.p] 51)
    replace r11 := r11.alloc (.cells #[.int .i64 y.ft.k, .int .i64 y.ft.s, .int .i64 y.ft.l, .bool y.ft.wk, .int .i64 y.ft.p] 51)
    replace r12 := r12.alloc (.cells #[.int .i64 y.ft.k, .int .i64 y.ft.s, .int .i64 y.ft.l, .bool y.ft.wk, .int .i64 y.ft.p] 51)
    replace r13 := r13.alloc (.cells #[.int .i64 y.ft.k, .int .i64 y.ft.s, .int .i64 y.ft.l, .bool y.ft.wk, .int .i64 y.ft.p] 51)
    replace h := h.alloc (.cells #[.int .i64 y.ft.k, .int .i64 y.ft.s, .int .i64 y.ft.l, .bool y.ft.wk, .int .i64 y.ft.p] 51)
    replace f1 := f1.alloc (.cells #[.int .i64 y.ft.k, .int .i64 y.ft.s, .int .i64 y.ft.l, .bool y.ft.wk, .int .i64 y.ft.p] 51)
    obtain ⟨c4x0, c4x1, c4x2, c4x3, c4x4⟩ := cells5 r14
    obtain ⟨c5x0, c5x1, c5x2, c5x3, c5x4⟩ := cells5 r10
    obtain ⟨z6x0, z6x1, z6x2, z6x3, z6x4⟩ := frozen5 r10
    go_wp2_with fail
    go_region
    go_wp2_with fail
    refine bodyPost_ret (ret_ttf rfl rfl (r10.put5 _ _ _ _ _).drew rfl) rfl ?_
    exact ⟨rfl, (f1.put5 (Or.inl (by omega)) _ _ _ _ _).drew⟩

set_option maxHeartbeats 4000000 in
theorem rnested_no (w : World) (p bf nf : Nat) (bs : List UInt8) (vm sd first second page want : Int) (h : IsRef w p bf nf bs) (hp : isP page = true) (hw : isR want = true) (hf : ¬ first < 0) (x : Res) (hx : guest bs nf second first page 0 = x) (hk : x.ft.k = 0) (y : Res) (hy : guest bs nf second x.fr page 1 = y) (hj : y.ft.k = 0) (hb : bits .and .i64 y.ri want = 0) :
    Calls Try.prog 32 #[.pointer (some ⟨p, 0, none⟩), .agg #[.int .i64 vm, .int .i64 sd, .int .i64 first, .int .i64 second], .int .i64 page, .int .i64 want] w fun e w' => e = .returned (.tuple #[.int .i64 0, .int .i64 0, .agg #[.int .i64 2, .int .i64 1, .int .i64 1, .bool false, .int .i64 page]]) ∧ Fr none' w w' := by
  have t0 : decide (page < 0) = false := decide_eq_false (by have := isP_iff.1 hp; omega)
  have t1 : decide (1023 < page) = false := decide_eq_false (by have := isP_iff.1 hp; omega)
  have hw3 : (want != 1) = false ∨ ((want != 1) = true ∧ (want != 2) = false) ∨ ((want != 1) = true ∧ (want != 2) = true ∧ (want != 4) = false) := by
    rcases isR_iff.1 hw with rfl | rfl | rfl <;> simp
  clear hw
  have t2 : decide (first < 0) = false := decide_eq_false (by omega)
  have hs := fun w0 h0 => rguest_yes w0 p bf nf bs vm sd first second first page 0 h0 hp (Or.inl rfl) (by rw [hx]; exact hk)
  rw [hx] at hs
  clear hx hf hk
  have hs2 := fun w0 h0 => rguest_yes w0 p bf nf bs vm sd first second x.fr page 1 h0 hp (Or.inr rfl) (by rw [hy]; exact hj)
  rw [hy] at hs2
  clear hy hj
  have t3 : (bits .and .i64 y.ri want == 0) = true := by simp [hb]
  clear hb
  have f1 := Fr.refl none' w
  have r5 := row_alloc w #[.int .i64 vm, .int .i64 sd, .int .i64 first, .int .i64 second] 38
  replace h := h.alloc (.cells #[.int .i64 vm, .int .i64 sd, .int .i64 first, .int .i64 second] 38)
  replace f1 := f1.alloc (.cells #[.int .i64 vm, .int .i64 sd, .int .i64 first, .int .i64 second] 38)
  have r10 := row_alloc2 w (.cells #[.int .i64 vm, .int .i64 sd, .int .i64 first, .int .i64 second] 38) #[.int .i64 0, .int .i64 0, .int .i64 0, .bool false, .int .i64 0] 51
  replace r5 := r5.alloc (.cells #[.int .i64 0, .int .i64 0, .int .i64 0, .bool false, .int .i64 0] 51)
  replace h := h.alloc (.cells #[.int .i64 0, .int .i64 0, .int .i64 0, .bool false, .int .i64 0] 51)
  replace f1 := f1.alloc (.cells #[.int .i64 0, .int .i64 0, .int .i64 0, .bool false, .int .i64 0] 51)
  obtain ⟨c0x0, c0x1, c0x2, c0x3⟩ := row4 r5
  rcases hw3 with q1 | ⟨q1, q2⟩ | ⟨q1, q2, q3⟩
  all_goals
    go_enter Try.func32, Try.ntmps32
    go_wp2_with fail
    refine (hs _ h).mono ?_
    rintro e v1 ⟨rfl, g1⟩
    clear c0x0 c0x1 c0x2 c0x3
    replace r5 := r5.keep g1 (fun h => h)
    replace r10 := r10.keep g1 (fun h => h)
    replace h := h.keep g1 (fun h => h) (fun h => h)
    replace f1 := f1.trans g1
    clear g1
    have r11 := row_alloc v1 #[.bool true, .bool false, .int .i64 x.ri, .int .i64 x.fr] 44
    replace r5 := r5.alloc (.cells #[.bool true, .bool false, .int .i64 x.ri, .int .i64 x.fr] 44)
    replace r10 := r10.alloc (.cells #[.bool true, .bool false, .int .i64 x.ri, .int .i64 x.fr] 44)
    replace h := h.alloc (.cells #[.bool true, .bool false, .int .i64 x.ri, .int .i64 x.fr] 44)
    replace f1 := f1.alloc (.cells #[.bool true, .bool false, .int .i64 x.ri, .int .i64 x.fr] 44)
    have r12 := row_alloc2 v1 (.cells #[.bool true, .bool false, .int .i64 x.ri, .int .i64 x.fr] 44) #[.int .i64 0, .int .i64 0, .int .i64 0, .bool false, .int .i64 0] 51
    replace r5 := r5.alloc (.cells #[.int .i64 0, .int .i64 0, .int .i64 0, .bool false, .int .i64 0] 51)
    replace r10 := r10.alloc (.cells #[.int .i64 0, .int .i64 0, .int .i64 0, .bool false, .int .i64 0] 51)
    replace r11 := r11.alloc (.cells #[.int .i64 0, .int .i64 0, .int .i64 0, .bool false, .int .i64 0] 51)
    replace h := h.alloc (.cells #[.int .i64 0, .int .i64 0, .int .i64 0, .bool false, .int .i64 0] 51)
    replace f1 := f1.alloc (.cells #[.int .i64 0, .int .i64 0, .int .i64 0, .bool false, .int .i64 0] 51)
    obtain ⟨c1x0, c1x1, c1x2, c1x3⟩ := row4 r5
    obtain ⟨c2x0, c2x1, c2x2, c2x3⟩ := row4 r11
    obtain ⟨c3x0, c3x1, c3x2, c3x3, c3x4⟩ := cells5 r12
    go_wp2_with fail
    refine (hs2 _ h).mono ?_
    rintro e v2 ⟨rfl, g2⟩
    clear c1x0 c1x1 c1x2 c1x3 c2x0 c2x1 c2x2 c2x3 c3x0 c3x1 c3x2 c3x3 c3x4
    replace r5 := r5.keep g2 (fun h => h)
    replace r10 := r10.keep g2 (fun h => h)
    replace r11 := r11.keep g2 (fun h => h)
    replace r12 := r12.keep g2 (fun h => h)
    replace h := h.keep g2 (fun h => h) (fun h => h)
    replace f1 := f1.trans g2
    clear g2
    have r13 := row_alloc v2 #[.bool true, .bool true, .int .i64 y.ri, .int .i64 y.fr] 44
    replace r5 := r5.alloc (.cells #[.bool true, .bool true, .int .i64 y.ri, .int .i64 y.fr] 44)
    replace r10 := r10.alloc (.cells #[.bool true, .bool true, .int .i64 y.ri, .int .i64 y.fr] 44)
    replace r11 := r11.alloc (.cells #[.bool true, .bool true, .int .i64 y.ri, .int .i64 y.fr] 44)
    replace r12 := r12.alloc (.cells #[.bool true, .bool true, .int .i64 y.ri, .int .i64 y.fr] 44)
    replace h := h.alloc (.cells #[.bool true, .bool true, .int .i64 y.ri, .int .i64 y.fr] 44)
    replace f1 := f1.alloc (.cells #[.bool true, .bool true, .int .i64 y.ri, .int .i64 y.fr] 44)
    have r14 := row_alloc2 v2 (.cells #[.bool true, .bool true, .int .i64 y.ri, .int .i64 y.fr] 44) #[.int .i64 0, .int .i64 0, .int .i64 0, .bool false, .int .i64 0] 51
    replace r5 := r5.alloc (.cells #[.int .i64 0, .int .i64 0, .int .i64 0, .bool false, .int .i64 0] 51)
    replace r10 := r10.alloc (.cells #[.int .i64 0, .int .i64 0, .int .i64 0, .bool false, .int .i64 0] 51)
    replace r11 := r11.alloc (.cells #[.int .i64 0, .int .i64 0, .int .i64 0, .bool false, .int .i64 0] 51)
    replace r12 := r12.alloc (.cells #[.int .i64 0, .int .i64 0, .int .i64 0, .bool false, .int .i64 0] 51)
    replace r13 := r13.alloc (.cells #[.int .i64 0, .int .i64 0, .int .i64 0, .bool false, .int .i64 0] 51)
    replace h := h.alloc (.cells #[.int .i64 0, .int .i64 0, .int .i64 0, .bool false, .int .i64 0] 51)
    replace f1 := f1.alloc (.cells #[.int .i64 0, .int .i64 0, .int .i64 0, .bool false, .int .i64 0] 51)
    obtain ⟨c4x0, c4x1, c4x2, c4x3⟩ := row4 r13
    obtain ⟨c5x0, c5x1, c5x2, c5x3, c5x4⟩ := cells5 r14
    obtain ⟨c6x0, c6x1, c6x2, c6x3⟩ := row4 r5
    obtain ⟨c7x0, c7x1, c7x2, c7x3, c7x4⟩ := cells5 r10
    obtain ⟨z8x0, z8x1, z8x2, z8x3, z8x4⟩ := frozen5 r10
    go_wp2_with fail
    refine bodyPost_ret (ret_ttf rfl rfl (r10.put5 _ _ _ _ _) rfl) rfl ?_
    exact ⟨rfl, f1.put5 (Or.inl (by omega)) _ _ _ _ _⟩

set_option maxHeartbeats 4000000 in
theorem rnested_fin (w : World) (p bf nf : Nat) (bs : List UInt8) (vm sd first second page want : Int) (h : IsRef w p bf nf bs) (hp : isP page = true) (hw : isR want = true) (hf : ¬ first < 0) (x : Res) (hx : guest bs nf second first page 0 = x) (hk : x.ft.k = 0) (y : Res) (hy : guest bs nf second x.fr page 1 = y) (hj : y.ft.k = 0) (hb : bits .and .i64 y.ri want ≠ 0) (z : Res) (hz : granted bs nf second y.fr want = z) :
    Calls Try.prog 32 #[.pointer (some ⟨p, 0, none⟩), .agg #[.int .i64 vm, .int .i64 sd, .int .i64 first, .int .i64 second], .int .i64 page, .int .i64 want] w fun e w' => e = .returned (.tuple #[.int .i64 z.fr, .int .i64 (bits .and .i64 z.ri y.ri), .agg #[.int .i64 z.ft.k, .int .i64 z.ft.s, .int .i64 z.ft.l, .bool z.ft.wk, .int .i64 z.ft.p]]) ∧ Fr none' w w' := by
  have t0 : decide (page < 0) = false := decide_eq_false (by have := isP_iff.1 hp; omega)
  have t1 : decide (1023 < page) = false := decide_eq_false (by have := isP_iff.1 hp; omega)
  have hw3 : (want != 1) = false ∨ ((want != 1) = true ∧ (want != 2) = false) ∨ ((want != 1) = true ∧ (want != 2) = true ∧ (want != 4) = false) := by
    rcases isR_iff.1 hw with rfl | rfl | rfl <;> simp
  clear hw
  have t2 : decide (first < 0) = false := decide_eq_false (by omega)
  have hs := fun w0 h0 => rguest_yes w0 p bf nf bs vm sd first second first page 0 h0 hp (Or.inl rfl) (by rw [hx]; exact hk)
  rw [hx] at hs
  clear hx hf hk
  have hs2 := fun w0 h0 => rguest_yes w0 p bf nf bs vm sd first second x.fr page 1 h0 hp (Or.inr rfl) (by rw [hy]; exact hj)
  rw [hy] at hs2
  clear hy hj
  have t3 : (bits .and .i64 y.ri want == 0) = false := by simp [hb]
  have hs3 := fun w0 h0 => rwith_any w0 p bf nf bs second y.fr want h0
  rw [hz] at hs3
  clear hb hz
  have f1 := Fr.refl none' w
  have r5 := row_alloc w #[.int .i64 vm, .int .i64 sd, .int .i64 first, .int .i64 second] 38
  replace h := h.alloc (.cells #[.int .i64 vm, .int .i64 sd, .int .i64 first, .int .i64 second] 38)
  replace f1 := f1.alloc (.cells #[.int .i64 vm, .int .i64 sd, .int .i64 first, .int .i64 second] 38)
  have r10 := row_alloc2 w (.cells #[.int .i64 vm, .int .i64 sd, .int .i64 first, .int .i64 second] 38) #[.int .i64 0, .int .i64 0, .int .i64 0, .bool false, .int .i64 0] 51
  replace r5 := r5.alloc (.cells #[.int .i64 0, .int .i64 0, .int .i64 0, .bool false, .int .i64 0] 51)
  replace h := h.alloc (.cells #[.int .i64 0, .int .i64 0, .int .i64 0, .bool false, .int .i64 0] 51)
  replace f1 := f1.alloc (.cells #[.int .i64 0, .int .i64 0, .int .i64 0, .bool false, .int .i64 0] 51)
  obtain ⟨c0x0, c0x1, c0x2, c0x3⟩ := row4 r5
  rcases hw3 with q1 | ⟨q1, q2⟩ | ⟨q1, q2, q3⟩
  all_goals
    go_enter Try.func32, Try.ntmps32
    go_wp2_with fail
    refine (hs _ h).mono ?_
    rintro e v1 ⟨rfl, g1⟩
    clear c0x0 c0x1 c0x2 c0x3
    replace r5 := r5.keep g1 (fun h => h)
    replace r10 := r10.keep g1 (fun h => h)
    replace h := h.keep g1 (fun h => h) (fun h => h)
    replace f1 := f1.trans g1
    clear g1
    have r11 := row_alloc v1 #[.bool true, .bool false, .int .i64 x.ri, .int .i64 x.fr] 44
    replace r5 := r5.alloc (.cells #[.bool true, .bool false, .int .i64 x.ri, .int .i64 x.fr] 44)
    replace r10 := r10.alloc (.cells #[.bool true, .bool false, .int .i64 x.ri, .int .i64 x.fr] 44)
    replace h := h.alloc (.cells #[.bool true, .bool false, .int .i64 x.ri, .int .i64 x.fr] 44)
    replace f1 := f1.alloc (.cells #[.bool true, .bool false, .int .i64 x.ri, .int .i64 x.fr] 44)
    have r12 := row_alloc2 v1 (.cells #[.bool true, .bool false, .int .i64 x.ri, .int .i64 x.fr] 44) #[.int .i64 0, .int .i64 0, .int .i64 0, .bool false, .int .i64 0] 51
    replace r5 := r5.alloc (.cells #[.int .i64 0, .int .i64 0, .int .i64 0, .bool false, .int .i64 0] 51)
    replace r10 := r10.alloc (.cells #[.int .i64 0, .int .i64 0, .int .i64 0, .bool false, .int .i64 0] 51)
    replace r11 := r11.alloc (.cells #[.int .i64 0, .int .i64 0, .int .i64 0, .bool false, .int .i64 0] 51)
    replace h := h.alloc (.cells #[.int .i64 0, .int .i64 0, .int .i64 0, .bool false, .int .i64 0] 51)
    replace f1 := f1.alloc (.cells #[.int .i64 0, .int .i64 0, .int .i64 0, .bool false, .int .i64 0] 51)
    obtain ⟨c1x0, c1x1, c1x2, c1x3⟩ := row4 r5
    obtain ⟨c2x0, c2x1, c2x2, c2x3⟩ := row4 r11
    obtain ⟨c3x0, c3x1, c3x2, c3x3, c3x4⟩ := cells5 r12
    go_wp2_with fail
    refine (hs2 _ h).mono ?_
    rintro e v2 ⟨rfl, g2⟩
    clear c1x0 c1x1 c1x2 c1x3 c2x0 c2x1 c2x2 c2x3 c3x0 c3x1 c3x2 c3x3 c3x4
    replace r5 := r5.keep g2 (fun h => h)
    replace r10 := r10.keep g2 (fun h => h)
    replace r11 := r11.keep g2 (fun h => h)
    replace r12 := r12.keep g2 (fun h => h)
    replace h := h.keep g2 (fun h => h) (fun h => h)
    replace f1 := f1.trans g2
    clear g2
    have r13 := row_alloc v2 #[.bool true, .bool true, .int .i64 y.ri, .int .i64 y.fr] 44
    replace r5 := r5.alloc (.cells #[.bool true, .bool true, .int .i64 y.ri, .int .i64 y.fr] 44)
    replace r10 := r10.alloc (.cells #[.bool true, .bool true, .int .i64 y.ri, .int .i64 y.fr] 44)
    replace r11 := r11.alloc (.cells #[.bool true, .bool true, .int .i64 y.ri, .int .i64 y.fr] 44)
    replace r12 := r12.alloc (.cells #[.bool true, .bool true, .int .i64 y.ri, .int .i64 y.fr] 44)
    replace h := h.alloc (.cells #[.bool true, .bool true, .int .i64 y.ri, .int .i64 y.fr] 44)
    replace f1 := f1.alloc (.cells #[.bool true, .bool true, .int .i64 y.ri, .int .i64 y.fr] 44)
    have r14 := row_alloc2 v2 (.cells #[.bool true, .bool true, .int .i64 y.ri, .int .i64 y.fr] 44) #[.int .i64 0, .int .i64 0, .int .i64 0, .bool false, .int .i64 0] 51
    replace r5 := r5.alloc (.cells #[.int .i64 0, .int .i64 0, .int .i64 0, .bool false, .int .i64 0] 51)
    replace r10 := r10.alloc (.cells #[.int .i64 0, .int .i64 0, .int .i64 0, .bool false, .int .i64 0] 51)
    replace r11 := r11.alloc (.cells #[.int .i64 0, .int .i64 0, .int .i64 0, .bool false, .int .i64 0] 51)
    replace r12 := r12.alloc (.cells #[.int .i64 0, .int .i64 0, .int .i64 0, .bool false, .int .i64 0] 51)
    replace r13 := r13.alloc (.cells #[.int .i64 0, .int .i64 0, .int .i64 0, .bool false, .int .i64 0] 51)
    replace h := h.alloc (.cells #[.int .i64 0, .int .i64 0, .int .i64 0, .bool false, .int .i64 0] 51)
    replace f1 := f1.alloc (.cells #[.int .i64 0, .int .i64 0, .int .i64 0, .bool false, .int .i64 0] 51)
    obtain ⟨c4x0, c4x1, c4x2, c4x3⟩ := row4 r13
    obtain ⟨c5x0, c5x1, c5x2, c5x3, c5x4⟩ := cells5 r14
    obtain ⟨c6x0, c6x1, c6x2, c6x3⟩ := row4 r5
    go_wp2_with fail
    refine (hs3 _ h).mono ?_
    rintro e v3 ⟨rfl, g3⟩
    clear c4x0 c4x1 c4x2 c4x3 c5x0 c5x1 c5x2 c5x3 c5x4 c6x0 c6x1 c6x2 c6x3
    replace r5 := r5.keep g3 (fun h => h)
    replace r10 := r10.keep g3 (fun h => h)
    replace r11 := r11.keep g3 (fun h => h)
    replace r12 := r12.keep g3 (fun h => h)
    replace r13 := r13.keep g3 (fun h => h)
    replace r14 := r14.keep g3 (fun h => h)
    replace h := h.keep g3 (fun h => h) (fun h => h)
    replace f1 := f1.trans g3
    clear g3
    have r17 := row_alloc v3 #[.int .i64 z.ft.k, .int .i64 z.ft.s, .int .i64 z.ft.l, .bool z.ft.wk, .int .i64 z.ft.p] 51
    replace r5 := r5.alloc (.cells #[.int .i64 z.ft.k, .int .i64 z.ft.s, .int .i64 z.ft.l, .bool z.ft.wk, .int .i64 z.ft.p] 51)
    replace r10 := r10.alloc (.cells #[.int .i64 z.ft.k, .int .i64 z.ft.s, .int .i64 z.ft.l, .bool z.ft.wk, .int .i64 z.ft.p] 51)
    replace r11 := r11.alloc (.cells #[.int .i64 z.ft.k, .int .i64 z.ft.s, .int .i64 z.ft.l, .bool z.ft.wk, .int .i64 z.ft.p] 51)
    replace r12 := r12.alloc (.cells #[.int .i64 z.ft.k, .int .i64 z.ft.s, .int .i64 z.ft.l, .bool z.ft.wk, .int .i64 z.ft.p] 51)
    replace r13 := r13.alloc (.cells #[.int .i64 z.ft.k, .int .i64 z.ft.s, .int .i64 z.ft.l, .bool z.ft.wk, .int .i64 z.ft.p] 51)
    replace r14 := r14.alloc (.cells #[.int .i64 z.ft.k, .int .i64 z.ft.s, .int .i64 z.ft.l, .bool z.ft.wk, .int .i64 z.ft.p] 51)
    replace h := h.alloc (.cells #[.int .i64 z.ft.k, .int .i64 z.ft.s, .int .i64 z.ft.l, .bool z.ft.wk, .int .i64 z.ft.p] 51)
    replace f1 := f1.alloc (.cells #[.int .i64 z.ft.k, .int .i64 z.ft.s, .int .i64 z.ft.l, .bool z.ft.wk, .int .i64 z.ft.p] 51)
    obtain ⟨c7x0, c7x1, c7x2, c7x3, c7x4⟩ := cells5 r17
    obtain ⟨c8x0, c8x1, c8x2, c8x3⟩ := row4 r13
    obtain ⟨c9x0, c9x1, c9x2, c9x3, c9x4⟩ := cells5 r10
    obtain ⟨z10x0, z10x1, z10x2, z10x3, z10x4⟩ := frozen5 r10
    go_wp2_with fail
    go_region
    go_wp2_with fail
    refine bodyPost_ret (ret_ttf rfl rfl (r10.put5 _ _ _ _ _).drew rfl) rfl ?_
    exact ⟨rfl, (f1.put5 (Or.inl (by omega)) _ _ _ _ _).drew⟩

theorem rnested_any (w : World) (p bf nf : Nat) (bs : List UInt8) (vm sd first second page want : Int) (h : IsRef w p bf nf bs) :
    Calls Try.prog 32 #[.pointer (some ⟨p, 0, none⟩), .agg #[.int .i64 vm, .int .i64 sd, .int .i64 first, .int .i64 second], .int .i64 page, .int .i64 want] w fun e w' => e = .returned (.tuple #[.int .i64 (nested bs nf first second page want).fr, .int .i64 (nested bs nf first second page want).ri, .agg #[.int .i64 (nested bs nf first second page want).ft.k, .int .i64 (nested bs nf first second page want).ft.s, .int .i64 (nested bs nf first second page want).ft.l, .bool (nested bs nf first second page want).ft.wk, .int .i64 (nested bs nf first second page want).ft.p]]) ∧ Fr none' w w' := by
  cases hp : isP page with
  | false =>
    have e : nested bs nf first second page want = miss 3 0 0 false 0 := by unfold nested; rw [if_pos (Or.inl hp)]
    rw [e]
    have hn : ¬ (0 ≤ page ∧ page ≤ 1023) := fun hh => by rw [isP_iff.2 hh] at hp; exact absurd hp (by decide)
    by_cases h0 : page < 0
    · exact rnested_lo w p vm sd first second page want h0
    · exact rnested_hi w p vm sd first second page want h0 (by omega)
  | true =>
    have hq := isP_iff.1 hp
    cases hw : isR want with
    | false =>
      have e : nested bs nf first second page want = miss 3 0 0 false 0 := by unfold nested; rw [if_pos (Or.inr hw)]
      rw [e]
      exact rnested_w w p vm sd first second page want (by omega) (by omega) hw
    | true =>
      have e0 : ¬ (isP page = false ∨ isR want = false) := by simp [hp, hw]
      unfold nested
      rw [if_neg e0]
      by_cases hf : first < 0
      · rw [if_pos hf]
        exact rnested_plain w p bf nf bs vm sd first second page want h hp hw hf _ rfl
      · rw [if_neg hf]
        by_cases h1 : (guest bs nf second first page 0).ft.k = 0
        · rw [if_neg (by simpa using h1)]
          by_cases h2 : (guest bs nf second (guest bs nf second first page 0).fr page 1).ft.k = 0
          · rw [if_neg (by simpa using h2)]
            by_cases h3 : bits .and .i64 (guest bs nf second (guest bs nf second first page 0).fr page 1).ri want = 0
            · rw [if_pos h3]
              exact rnested_no w p bf nf bs vm sd first second page want h hp hw hf _ rfl h1 _ rfl h2 h3
            · rw [if_neg h3]
              exact rnested_fin w p bf nf bs vm sd first second page want h hp hw hf _ rfl h1 _ rfl h2 h3 _ rfl
          · rw [if_pos h2, (guest_zero _ _ _ _ _ _ h2).1, (guest_zero _ _ _ _ _ _ h2).2]
            exact rnested_g1 w p bf nf bs vm sd first second page want h hp hw hf _ rfl h1 _ rfl h2
        · rw [if_pos h1, (guest_zero _ _ _ _ _ _ h1).1, (guest_zero _ _ _ _ _ _ h1).2]
          exact rnested_g0 w p bf nf bs vm sd first second page want h hp hw hf _ rfl h1

end Go.Proofs.Ytknpjfbjalboeaa
