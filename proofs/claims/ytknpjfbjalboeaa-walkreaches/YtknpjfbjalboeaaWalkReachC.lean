/-
  The contract of package walk's Reach over the translation: by the buffer, or by both tables, and then filled. No statement is proved here.
-/
import Derived.Test.YtknpjfbjalboeaaWalkNest
import Derived.Test.YtknpjfbjalboeaaTlbAny
namespace Go.Proofs.Ytknpjfbjalboeaa
open Go.RowKit

set_option maxHeartbeats 2000000 in
theorem reach_hit (w : World) (p bf nf : Nat) (bs : List UInt8) (bt : Nat) (T : Nat → Ln) (fo mi vm sd first second page want ix : Int) (h : IsRam w p bf nf bs) (hT : IsTlb w bt T fo mi) (hfo : 0 ≤ fo ∧ fo < 1000000) (hmi : 0 ≤ mi ∧ mi < 1000000) (n1 : p ≠ bt) (n2 : bf ≠ bt) (h1 : ansB (idx T vm sd page 8) = true) (h2 : isR want = true) (h3 : bits .and .i64 (ansR T (idx T vm sd page 8)) want ≠ 0) :
    Calls Try.prog 12 #[.pointer (some ⟨p, 0, none⟩), .pointer (some ⟨bt, 0, none⟩), .agg #[.int .i64 vm, .int .i64 sd, .int .i64 first, .int .i64 second], .int .i64 page, .int .i64 want, .int .i64 ix] w fun e w' => e = .returned (.tuple #[.int .i64 (ansF T (idx T vm sd page 8)), .agg #[.int .i64 0, .int .i64 0, .int .i64 0, .bool false, .int .i64 0]]) ∧ Fr (at' bt) w w' ∧ IsTlb w' bt T (fo + moreF (idx T vm sd page 8)) (mi + moreM (idx T vm sd page 8)) := by
  have f1 := Fr.refl (at' bt) w
  have lt := hT.lt
  have t3 : (bits .and .i64 (ansR T (idx T vm sd page 8)) want != 0) = true := by simp [h3]
  clear h3
  have r8 := row_alloc w #[.int .i64 vm, .int .i64 sd, .int .i64 first, .int .i64 second] 38
  replace hT := hT.alloc (.cells #[.int .i64 vm, .int .i64 sd, .int .i64 first, .int .i64 second] 38)
  replace h := h.alloc (.cells #[.int .i64 vm, .int .i64 sd, .int .i64 first, .int .i64 second] 38)
  replace f1 := f1.alloc (.cells #[.int .i64 vm, .int .i64 sd, .int .i64 first, .int .i64 second] 38)
  have r13 := row_alloc2 w (.cells #[.int .i64 vm, .int .i64 sd, .int .i64 first, .int .i64 second] 38) #[.int .i64 0, .int .i64 0, .int .i64 0, .bool false, .int .i64 0] 51
  replace hT := hT.alloc (.cells #[.int .i64 0, .int .i64 0, .int .i64 0, .bool false, .int .i64 0] 51)
  replace r8 := r8.alloc (.cells #[.int .i64 0, .int .i64 0, .int .i64 0, .bool false, .int .i64 0] 51)
  replace h := h.alloc (.cells #[.int .i64 0, .int .i64 0, .int .i64 0, .bool false, .int .i64 0] 51)
  replace f1 := f1.alloc (.cells #[.int .i64 0, .int .i64 0, .int .i64 0, .bool false, .int .i64 0] 51)
  obtain ⟨c0x0, c0x1, c0x2, c0x3⟩ := row4 r8
  have lt2 : Hid (bt < w.heap.size) := lt
  clear lt
  go_enter Try.func12, Try.ntmps12
  go_wp2_with fail
  refine (find_any _ _ _ _ _ _ _ _ hT hfo hmi).mono ?_
  rintro e v1 ⟨rfl, g1, hT1⟩
  clear c0x0 c0x1 c0x2 c0x3
  have lt := lt2.out
  replace r8 := r8.keep g1 (show _ ≠ _ by omega)
  replace r13 := r13.keep g1 (show _ ≠ _ by omega)
  replace h := h.keep g1 n1 n2
  replace f1 := f1.trans g1
  clear hT g1 lt
  rw [h1]
  go_wp2_with fail
  refine (isRight_any _ _).mono ?_
  rintro e v2 ⟨rfl, rfl⟩
  rw [h2]
  obtain ⟨c1x0, c1x1, c1x2, c1x3, c1x4⟩ := cells5 r13
  obtain ⟨z2x0, z2x1, z2x2, z2x3, z2x4⟩ := frozen5 r13
  go_wp2_with fail
  refine bodyPost_ret (ret_tf rfl rfl (r13.put5 _ _ _ _ _) rfl) rfl ?_
  exact ⟨rfl, f1.put5 (Or.inl (by omega)) _ _ _ _ _, hT1.keep ((Fr.refl (at' (w.heap.size + 1)) _).put5 (Or.inr rfl) _ _ _ _ _) (show _ ≠ _ by have := lt2.out; omega)⟩

set_option maxHeartbeats 4000000 in
theorem reach_ano (w : World) (p bf nf : Nat) (bs : List UInt8) (bt : Nat) (T : Nat → Ln) (fo mi vm sd first second page want ix : Int) (h : IsRam w p bf nf bs) (hT : IsTlb w bt T fo mi) (hfo : 0 ≤ fo ∧ fo < 1000000) (hmi : 0 ≤ mi ∧ mi < 1000000) (n1 : p ≠ bt) (n2 : bf ≠ bt) (h1 : ansB (idx T vm sd page 8) = false) (x : Res) (hx : nested bs nf first second page want = x) (hk : x.ft.k ≠ 0) :
    Calls Try.prog 12 #[.pointer (some ⟨p, 0, none⟩), .pointer (some ⟨bt, 0, none⟩), .agg #[.int .i64 vm, .int .i64 sd, .int .i64 first, .int .i64 second], .int .i64 page, .int .i64 want, .int .i64 ix] w fun e w' => e = .returned (.tuple #[.int .i64 x.fr, .agg #[.int .i64 x.ft.k, .int .i64 x.ft.s, .int .i64 x.ft.l, .bool x.ft.wk, .int .i64 x.ft.p]]) ∧ Fr (at' bt) w w' ∧ IsTlb w' bt T (fo + moreF (idx T vm sd page 8)) (mi + moreM (idx T vm sd page 8)) := by
  have hs := fun w0 h0 => nested_any w0 p bf nf bs vm sd first second page want h0
  rw [hx] at hs
  have t4 : (x.ft.k == 0) = false := by simp [hk]
  clear hx hk
  have f1 := Fr.refl (at' bt) w
  have lt := hT.lt
  have r8 := row_alloc w #[.int .i64 vm, .int .i64 sd, .int .i64 first, .int .i64 second] 38
  replace hT := hT.alloc (.cells #[.int .i64 vm, .int .i64 sd, .int .i64 first, .int .i64 second] 38)
  replace h := h.alloc (.cells #[.int .i64 vm, .int .i64 sd, .int .i64 first, .int .i64 second] 38)
  replace f1 := f1.alloc (.cells #[.int .i64 vm, .int .i64 sd, .int .i64 first, .int .i64 second] 38)
  have r13 := row_alloc2 w (.cells #[.int .i64 vm, .int .i64 sd, .int .i64 first, .int .i64 second] 38) #[.int .i64 0, .int .i64 0, .int .i64 0, .bool false, .int .i64 0] 51
  replace hT := hT.alloc (.cells #[.int .i64 0, .int .i64 0, .int .i64 0, .bool false, .int .i64 0] 51)
  replace r8 := r8.alloc (.cells #[.int .i64 0, .int .i64 0, .int .i64 0, .bool false, .int .i64 0] 51)
  replace h := h.alloc (.cells #[.int .i64 0, .int .i64 0, .int .i64 0, .bool false, .int .i64 0] 51)
  replace f1 := f1.alloc (.cells #[.int .i64 0, .int .i64 0, .int .i64 0, .bool false, .int .i64 0] 51)
  obtain ⟨c0x0, c0x1, c0x2, c0x3⟩ := row4 r8
  have lt2 : Hid (bt < w.heap.size) := lt
  clear lt
  go_enter Try.func12, Try.ntmps12
  go_wp2_with fail
  refine (find_any _ _ _ _ _ _ _ _ hT hfo hmi).mono ?_
  rintro e v1 ⟨rfl, g1, hT1⟩
  clear c0x0 c0x1 c0x2 c0x3
  have lt := lt2.out
  replace r8 := r8.keep g1 (show _ ≠ _ by omega)
  replace r13 := r13.keep g1 (show _ ≠ _ by omega)
  replace h := h.keep g1 n1 n2
  replace f1 := f1.trans g1
  clear hT g1 lt
  rw [h1]
  obtain ⟨c1x0, c1x1, c1x2, c1x3⟩ := row4 r8
  go_wp2_with fail
  refine (hs _ h).mono ?_
  rintro e v2 ⟨rfl, g2⟩
  clear c1x0 c1x1 c1x2 c1x3
  replace hT1 := hT1.keep g2 (fun h => h)
  replace r8 := r8.keep g2 (fun h => h)
  replace r13 := r13.keep g2 (fun h => h)
  replace h := h.keep g2 (fun h => h) (fun h => h)
  replace f1 := f1.trans (g2.mono (fun _ _ h => h.elim))
  clear g2
  clear h hs
  have l5 : Hid (bt < v2.heap.size ∧ w.heap.size + 1 < v2.heap.size) := ⟨hT1.lt, r13.lt⟩
  have r17 := row_alloc v2 #[.int .i64 x.ft.k, .int .i64 x.ft.s, .int .i64 x.ft.l, .bool x.ft.wk, .int .i64 x.ft.p] 51
  replace hT1 := hT1.alloc (.cells #[.int .i64 x.ft.k, .int .i64 x.ft.s, .int .i64 x.ft.l, .bool x.ft.wk, .int .i64 x.ft.p] 51)
  replace r8 := r8.alloc (.cells #[.int .i64 x.ft.k, .int .i64 x.ft.s, .int .i64 x.ft.l, .bool x.ft.wk, .int .i64 x.ft.p] 51)
  replace r13 := r13.alloc (.cells #[.int .i64 x.ft.k, .int .i64 x.ft.s, .int .i64 x.ft.l, .bool x.ft.wk, .int .i64 x.ft.p] 51)
  replace f1 := f1.alloc (.cells #[.int .i64 x.ft.k, .int .i64 x.ft.s, .int .i64 x.ft.l, .bool x.ft.wk, .int .i64 x.ft.p] 51)
  obtain ⟨c2x0, c2x1, c2x2, c2x3, c2x4⟩ := cells5 r17
  go_wp2_with fail
  refine (none_any x.ft _).mono ?_
  rintro e v3 ⟨rfl, g3⟩
  clear c2x0 c2x1 c2x2 c2x3 c2x4
  rw [t4]
  replace hT1 := hT1.keep g3 (fun h => h)
  replace r8 := r8.keep g3 (fun h => h)
  replace r13 := r13.keep g3 (fun h => h)
  replace r17 := r17.keep g3 (fun h => h)
  replace f1 := f1.trans (g3.mono (fun _ _ h => h.elim))
  clear g3
  obtain ⟨c3x0, c3x1, c3x2, c3x3, c3x4⟩ := cells5 r17
  obtain ⟨c4x0, c4x1, c4x2, c4x3, c4x4⟩ := cells5 r13
  obtain ⟨z5x0, z5x1, z5x2, z5x3, z5x4⟩ := frozen5 r13
  go_wp2_with fail
  go_region
  go_wp2_with fail
  refine bodyPost_ret (ret_tf rfl rfl (r13.put5 _ _ _ _ _).drew rfl) rfl ?_
  exact ⟨rfl, (f1.put5 (Or.inl (by omega)) _ _ _ _ _).drew, hT1.keep ((Fr.refl (at' (w.heap.size + 1)) _).put5 (Or.inr rfl) _ _ _ _ _).drew (show _ ≠ _ by have := lt2.out; omega)⟩

set_option maxHeartbeats 4000000 in
theorem reach_aok (w : World) (p bf nf : Nat) (bs : List UInt8) (bt : Nat) (T : Nat → Ln) (fo mi vm sd first second page want ix : Int) (h : IsRam w p bf nf bs) (hT : IsTlb w bt T fo mi) (hfo : 0 ≤ fo ∧ fo < 1000000) (hmi : 0 ≤ mi ∧ mi < 1000000) (n1 : p ≠ bt) (n2 : bf ≠ bt) (h1 : ansB (idx T vm sd page 8) = false) (x : Res) (hx : nested bs nf first second page want = x) (hk : x.ft.k = 0) :
    Calls Try.prog 12 #[.pointer (some ⟨p, 0, none⟩), .pointer (some ⟨bt, 0, none⟩), .agg #[.int .i64 vm, .int .i64 sd, .int .i64 first, .int .i64 second], .int .i64 page, .int .i64 want, .int .i64 ix] w fun e w' => e = .returned (.tuple #[.int .i64 x.fr, .agg #[.int .i64 x.ft.k, .int .i64 x.ft.s, .int .i64 x.ft.l, .bool x.ft.wk, .int .i64 x.ft.p]]) ∧ Fr (at' bt) w w' ∧ IsTlb w' bt (fillT T ix ⟨vm, sd, page, x.fr, x.ri⟩) (fo + moreF (idx T vm sd page 8)) (mi + moreM (idx T vm sd page 8)) := by
  have hs := fun w0 h0 => nested_any w0 p bf nf bs vm sd first second page want h0
  rw [hx] at hs
  have t4 : (x.ft.k == 0) = true := by simp [hk]
  clear hx hk
  have f1 := Fr.refl (at' bt) w
  have lt := hT.lt
  have r8 := row_alloc w #[.int .i64 vm, .int .i64 sd, .int .i64 first, .int .i64 second] 38
  replace hT := hT.alloc (.cells #[.int .i64 vm, .int .i64 sd, .int .i64 first, .int .i64 second] 38)
  replace h := h.alloc (.cells #[.int .i64 vm, .int .i64 sd, .int .i64 first, .int .i64 second] 38)
  replace f1 := f1.alloc (.cells #[.int .i64 vm, .int .i64 sd, .int .i64 first, .int .i64 second] 38)
  have r13 := row_alloc2 w (.cells #[.int .i64 vm, .int .i64 sd, .int .i64 first, .int .i64 second] 38) #[.int .i64 0, .int .i64 0, .int .i64 0, .bool false, .int .i64 0] 51
  replace hT := hT.alloc (.cells #[.int .i64 0, .int .i64 0, .int .i64 0, .bool false, .int .i64 0] 51)
  replace r8 := r8.alloc (.cells #[.int .i64 0, .int .i64 0, .int .i64 0, .bool false, .int .i64 0] 51)
  replace h := h.alloc (.cells #[.int .i64 0, .int .i64 0, .int .i64 0, .bool false, .int .i64 0] 51)
  replace f1 := f1.alloc (.cells #[.int .i64 0, .int .i64 0, .int .i64 0, .bool false, .int .i64 0] 51)
  obtain ⟨c0x0, c0x1, c0x2, c0x3⟩ := row4 r8
  have lt2 : Hid (bt < w.heap.size) := lt
  clear lt
  go_enter Try.func12, Try.ntmps12
  go_wp2_with fail
  refine (find_any _ _ _ _ _ _ _ _ hT hfo hmi).mono ?_
  rintro e v1 ⟨rfl, g1, hT1⟩
  clear c0x0 c0x1 c0x2 c0x3
  have lt := lt2.out
  replace r8 := r8.keep g1 (show _ ≠ _ by omega)
  replace r13 := r13.keep g1 (show _ ≠ _ by omega)
  replace h := h.keep g1 n1 n2
  replace f1 := f1.trans g1
  clear hT g1 lt
  rw [h1]
  obtain ⟨c1x0, c1x1, c1x2, c1x3⟩ := row4 r8
  go_wp2_with fail
  refine (hs _ h).mono ?_
  rintro e v2 ⟨rfl, g2⟩
  clear c1x0 c1x1 c1x2 c1x3
  replace hT1 := hT1.keep g2 (fun h => h)
  replace r8 := r8.keep g2 (fun h => h)
  replace r13 := r13.keep g2 (fun h => h)
  replace h := h.keep g2 (fun h => h) (fun h => h)
  replace f1 := f1.trans (g2.mono (fun _ _ h => h.elim))
  clear g2
  clear h hs
  have l5 : Hid (bt < v2.heap.size ∧ w.heap.size + 1 < v2.heap.size) := ⟨hT1.lt, r13.lt⟩
  have r17 := row_alloc v2 #[.int .i64 x.ft.k, .int .i64 x.ft.s, .int .i64 x.ft.l, .bool x.ft.wk, .int .i64 x.ft.p] 51
  replace hT1 := hT1.alloc (.cells #[.int .i64 x.ft.k, .int .i64 x.ft.s, .int .i64 x.ft.l, .bool x.ft.wk, .int .i64 x.ft.p] 51)
  replace r8 := r8.alloc (.cells #[.int .i64 x.ft.k, .int .i64 x.ft.s, .int .i64 x.ft.l, .bool x.ft.wk, .int .i64 x.ft.p] 51)
  replace r13 := r13.alloc (.cells #[.int .i64 x.ft.k, .int .i64 x.ft.s, .int .i64 x.ft.l, .bool x.ft.wk, .int .i64 x.ft.p] 51)
  replace f1 := f1.alloc (.cells #[.int .i64 x.ft.k, .int .i64 x.ft.s, .int .i64 x.ft.l, .bool x.ft.wk, .int .i64 x.ft.p] 51)
  obtain ⟨c2x0, c2x1, c2x2, c2x3, c2x4⟩ := cells5 r17
  go_wp2_with fail
  refine (none_any x.ft _).mono ?_
  rintro e v3 ⟨rfl, g3⟩
  clear c2x0 c2x1 c2x2 c2x3 c2x4
  rw [t4]
  replace hT1 := hT1.keep g3 (fun h => h)
  replace r8 := r8.keep g3 (fun h => h)
  replace r13 := r13.keep g3 (fun h => h)
  replace r17 := r17.keep g3 (fun h => h)
  replace f1 := f1.trans (g3.mono (fun _ _ h => h.elim))
  clear g3
  obtain ⟨c3x0, c3x1, c3x2, c3x3⟩ := row4 r8
  go_wp2_with fail
  refine (fill_any _ _ _ _ _ hT1 ix ⟨vm, sd, page, x.fr, x.ri⟩).mono ?_
  rintro e v9 ⟨rfl, g9, hT9⟩
  clear c3x0 c3x1 c3x2 c3x3
  have lt := lt2.out
  have l6 := l5.out
  replace r13 := r13.keep g9 (show _ ≠ _ by omega)
  replace r17 := r17.keep g9 (show _ ≠ _ by omega)
  replace f1 := f1.trans g9
  clear hT1 g9 lt l6 r8
  obtain ⟨c4x0, c4x1, c4x2, c4x3, c4x4⟩ := cells5 r17
  obtain ⟨c5x0, c5x1, c5x2, c5x3, c5x4⟩ := cells5 r13
  obtain ⟨z6x0, z6x1, z6x2, z6x3, z6x4⟩ := frozen5 r13
  go_wp2_with fail
  go_region
  go_wp2_with fail
  refine bodyPost_ret (ret_tf rfl rfl (r13.put5 _ _ _ _ _).drew rfl) rfl ?_
  exact ⟨rfl, (f1.put5 (Or.inl (by omega)) _ _ _ _ _).drew, hT9.keep ((Fr.refl (at' (w.heap.size + 1)) _).put5 (Or.inr rfl) _ _ _ _ _).drew (show _ ≠ _ by have := lt2.out; omega)⟩

set_option maxHeartbeats 4000000 in
theorem reach_bno (w : World) (p bf nf : Nat) (bs : List UInt8) (bt : Nat) (T : Nat → Ln) (fo mi vm sd first second page want ix : Int) (h : IsRam w p bf nf bs) (hT : IsTlb w bt T fo mi) (hfo : 0 ≤ fo ∧ fo < 1000000) (hmi : 0 ≤ mi ∧ mi < 1000000) (n1 : p ≠ bt) (n2 : bf ≠ bt) (h1 : ansB (idx T vm sd page 8) = true) (h2 : isR want = false) (x : Res) (hx : nested bs nf first second page want = x) (hk : x.ft.k ≠ 0) :
    Calls Try.prog 12 #[.pointer (some ⟨p, 0, none⟩), .pointer (some ⟨bt, 0, none⟩), .agg #[.int .i64 vm, .int .i64 sd, .int .i64 first, .int .i64 second], .int .i64 page, .int .i64 want, .int .i64 ix] w fun e w' => e = .returned (.tuple #[.int .i64 x.fr, .agg #[.int .i64 x.ft.k, .int .i64 x.ft.s, .int .i64 x.ft.l, .bool x.ft.wk, .int .i64 x.ft.p]]) ∧ Fr (at' bt) w w' ∧ IsTlb w' bt T (fo + moreF (idx T vm sd page 8)) (mi + moreM (idx T vm sd page 8)) := by
  have hs := fun w0 h0 => nested_any w0 p bf nf bs vm sd first second page want h0
  rw [hx] at hs
  have t4 : (x.ft.k == 0) = false := by simp [hk]
  clear hx hk
  have f1 := Fr.refl (at' bt) w
  have lt := hT.lt
  have r8 := row_alloc w #[.int .i64 vm, .int .i64 sd, .int .i64 first, .int .i64 second] 38
  replace hT := hT.alloc (.cells #[.int .i64 vm, .int .i64 sd, .int .i64 first, .int .i64 second] 38)
  replace h := h.alloc (.cells #[.int .i64 vm, .int .i64 sd, .int .i64 first, .int .i64 second] 38)
  replace f1 := f1.alloc (.cells #[.int .i64 vm, .int .i64 sd, .int .i64 first, .int .i64 second] 38)
  have r13 := row_alloc2 w (.cells #[.int .i64 vm, .int .i64 sd, .int .i64 first, .int .i64 second] 38) #[.int .i64 0, .int .i64 0, .int .i64 0, .bool false, .int .i64 0] 51
  replace hT := hT.alloc (.cells #[.int .i64 0, .int .i64 0, .int .i64 0, .bool false, .int .i64 0] 51)
  replace r8 := r8.alloc (.cells #[.int .i64 0, .int .i64 0, .int .i64 0, .bool false, .int .i64 0] 51)
  replace h := h.alloc (.cells #[.int .i64 0, .int .i64 0, .int .i64 0, .bool false, .int .i64 0] 51)
  replace f1 := f1.alloc (.cells #[.int .i64 0, .int .i64 0, .int .i64 0, .bool false, .int .i64 0] 51)
  obtain ⟨c0x0, c0x1, c0x2, c0x3⟩ := row4 r8
  have lt2 : Hid (bt < w.heap.size) := lt
  clear lt
  go_enter Try.func12, Try.ntmps12
  go_wp2_with fail
  refine (find_any _ _ _ _ _ _ _ _ hT hfo hmi).mono ?_
  rintro e v1 ⟨rfl, g1, hT1⟩
  clear c0x0 c0x1 c0x2 c0x3
  have lt := lt2.out
  replace r8 := r8.keep g1 (show _ ≠ _ by omega)
  replace r13 := r13.keep g1 (show _ ≠ _ by omega)
  replace h := h.keep g1 n1 n2
  replace f1 := f1.trans g1
  clear hT g1 lt
  rw [h1]
  go_wp2_with fail
  refine (isRight_any _ _).mono ?_
  rintro e v2 ⟨rfl, rfl⟩
  rw [h2]
  obtain ⟨c1x0, c1x1, c1x2, c1x3⟩ := row4 r8
  go_wp2_with fail
  refine (hs _ h).mono ?_
  rintro e v3 ⟨rfl, g3⟩
  clear c1x0 c1x1 c1x2 c1x3
  replace hT1 := hT1.keep g3 (fun h => h)
  replace r8 := r8.keep g3 (fun h => h)
  replace r13 := r13.keep g3 (fun h => h)
  replace h := h.keep g3 (fun h => h) (fun h => h)
  replace f1 := f1.trans (g3.mono (fun _ _ h => h.elim))
  clear g3
  clear h hs
  have l5 : Hid (bt < v3.heap.size ∧ w.heap.size + 1 < v3.heap.size) := ⟨hT1.lt, r13.lt⟩
  have r17 := row_alloc v3 #[.int .i64 x.ft.k, .int .i64 x.ft.s, .int .i64 x.ft.l, .bool x.ft.wk, .int .i64 x.ft.p] 51
  replace hT1 := hT1.alloc (.cells #[.int .i64 x.ft.k, .int .i64 x.ft.s, .int .i64 x.ft.l, .bool x.ft.wk, .int .i64 x.ft.p] 51)
  replace r8 := r8.alloc (.cells #[.int .i64 x.ft.k, .int .i64 x.ft.s, .int .i64 x.ft.l, .bool x.ft.wk, .int .i64 x.ft.p] 51)
  replace r13 := r13.alloc (.cells #[.int .i64 x.ft.k, .int .i64 x.ft.s, .int .i64 x.ft.l, .bool x.ft.wk, .int .i64 x.ft.p] 51)
  replace f1 := f1.alloc (.cells #[.int .i64 x.ft.k, .int .i64 x.ft.s, .int .i64 x.ft.l, .bool x.ft.wk, .int .i64 x.ft.p] 51)
  obtain ⟨c2x0, c2x1, c2x2, c2x3, c2x4⟩ := cells5 r17
  go_wp2_with fail
  refine (none_any x.ft _).mono ?_
  rintro e v4 ⟨rfl, g4⟩
  clear c2x0 c2x1 c2x2 c2x3 c2x4
  rw [t4]
  replace hT1 := hT1.keep g4 (fun h => h)
  replace r8 := r8.keep g4 (fun h => h)
  replace r13 := r13.keep g4 (fun h => h)
  replace r17 := r17.keep g4 (fun h => h)
  replace f1 := f1.trans (g4.mono (fun _ _ h => h.elim))
  clear g4
  obtain ⟨c3x0, c3x1, c3x2, c3x3, c3x4⟩ := cells5 r17
  obtain ⟨c4x0, c4x1, c4x2, c4x3, c4x4⟩ := cells5 r13
  obtain ⟨z5x0, z5x1, z5x2, z5x3, z5x4⟩ := frozen5 r13
  go_wp2_with fail
  go_region
  go_wp2_with fail
  refine bodyPost_ret (ret_tf rfl rfl (r13.put5 _ _ _ _ _).drew rfl) rfl ?_
  exact ⟨rfl, (f1.put5 (Or.inl (by omega)) _ _ _ _ _).drew, hT1.keep ((Fr.refl (at' (w.heap.size + 1)) _).put5 (Or.inr rfl) _ _ _ _ _).drew (show _ ≠ _ by have := lt2.out; omega)⟩

set_option maxHeartbeats 4000000 in
theorem reach_bok (w : World) (p bf nf : Nat) (bs : List UInt8) (bt : Nat) (T : Nat → Ln) (fo mi vm sd first second page want ix : Int) (h : IsRam w p bf nf bs) (hT : IsTlb w bt T fo mi) (hfo : 0 ≤ fo ∧ fo < 1000000) (hmi : 0 ≤ mi ∧ mi < 1000000) (n1 : p ≠ bt) (n2 : bf ≠ bt) (h1 : ansB (idx T vm sd page 8) = true) (h2 : isR want = false) (x : Res) (hx : nested bs nf first second page want = x) (hk : x.ft.k = 0) :
    Calls Try.prog 12 #[.pointer (some ⟨p, 0, none⟩), .pointer (some ⟨bt, 0, none⟩), .agg #[.int .i64 vm, .int .i64 sd, .int .i64 first, .int .i64 second], .int .i64 page, .int .i64 want, .int .i64 ix] w fun e w' => e = .returned (.tuple #[.int .i64 x.fr, .agg #[.int .i64 x.ft.k, .int .i64 x.ft.s, .int .i64 x.ft.l, .bool x.ft.wk, .int .i64 x.ft.p]]) ∧ Fr (at' bt) w w' ∧ IsTlb w' bt (fillT T ix ⟨vm, sd, page, x.fr, x.ri⟩) (fo + moreF (idx T vm sd page 8)) (mi + moreM (idx T vm sd page 8)) := by
  have hs := fun w0 h0 => nested_any w0 p bf nf bs vm sd first second page want h0
  rw [hx] at hs
  have t4 : (x.ft.k == 0) = true := by simp [hk]
  clear hx hk
  have f1 := Fr.refl (at' bt) w
  have lt := hT.lt
  have r8 := row_alloc w #[.int .i64 vm, .int .i64 sd, .int .i64 first, .int .i64 second] 38
  replace hT := hT.alloc (.cells #[.int .i64 vm, .int .i64 sd, .int .i64 first, .int .i64 second] 38)
  replace h := h.alloc (.cells #[.int .i64 vm, .int .i64 sd, .int .i64 first, .int .i64 second] 38)
  replace f1 := f1.alloc (.cells #[.int .i64 vm, .int .i64 sd, .int .i64 first, .int .i64 second] 38)
  have r13 := row_alloc2 w (.cells #[.int .i64 vm, .int .i64 sd, .int .i64 first, .int .i64 second] 38) #[.int .i64 0, .int .i64 0, .int .i64 0, .bool false, .int .i64 0] 51
  replace hT := hT.alloc (.cells #[.int .i64 0, .int .i64 0, .int .i64 0, .bool false, .int .i64 0] 51)
  replace r8 := r8.alloc (.cells #[.int .i64 0, .int .i64 0, .int .i64 0, .bool false, .int .i64 0] 51)
  replace h := h.alloc (.cells #[.int .i64 0, .int .i64 0, .int .i64 0, .bool false, .int .i64 0] 51)
  replace f1 := f1.alloc (.cells #[.int .i64 0, .int .i64 0, .int .i64 0, .bool false, .int .i64 0] 51)
  obtain ⟨c0x0, c0x1, c0x2, c0x3⟩ := row4 r8
  have lt2 : Hid (bt < w.heap.size) := lt
  clear lt
  go_enter Try.func12, Try.ntmps12
  go_wp2_with fail
  refine (find_any _ _ _ _ _ _ _ _ hT hfo hmi).mono ?_
  rintro e v1 ⟨rfl, g1, hT1⟩
  clear c0x0 c0x1 c0x2 c0x3
  have lt := lt2.out
  replace r8 := r8.keep g1 (show _ ≠ _ by omega)
  replace r13 := r13.keep g1 (show _ ≠ _ by omega)
  replace h := h.keep g1 n1 n2
  replace f1 := f1.trans g1
  clear hT g1 lt
  rw [h1]
  go_wp2_with fail
  refine (isRight_any _ _).mono ?_
  rintro e v2 ⟨rfl, rfl⟩
  rw [h2]
  obtain ⟨c1x0, c1x1, c1x2, c1x3⟩ := row4 r8
  go_wp2_with fail
  refine (hs _ h).mono ?_
  rintro e v3 ⟨rfl, g3⟩
  clear c1x0 c1x1 c1x2 c1x3
  replace hT1 := hT1.keep g3 (fun h => h)
  replace r8 := r8.keep g3 (fun h => h)
  replace r13 := r13.keep g3 (fun h => h)
  replace h := h.keep g3 (fun h => h) (fun h => h)
  replace f1 := f1.trans (g3.mono (fun _ _ h => h.elim))
  clear g3
  clear h hs
  have l5 : Hid (bt < v3.heap.size ∧ w.heap.size + 1 < v3.heap.size) := ⟨hT1.lt, r13.lt⟩
  have r17 := row_alloc v3 #[.int .i64 x.ft.k, .int .i64 x.ft.s, .int .i64 x.ft.l, .bool x.ft.wk, .int .i64 x.ft.p] 51
  replace hT1 := hT1.alloc (.cells #[.int .i64 x.ft.k, .int .i64 x.ft.s, .int .i64 x.ft.l, .bool x.ft.wk, .int .i64 x.ft.p] 51)
  replace r8 := r8.alloc (.cells #[.int .i64 x.ft.k, .int .i64 x.ft.s, .int .i64 x.ft.l, .bool x.ft.wk, .int .i64 x.ft.p] 51)
  replace r13 := r13.alloc (.cells #[.int .i64 x.ft.k, .int .i64 x.ft.s, .int .i64 x.ft.l, .bool x.ft.wk, .int .i64 x.ft.p] 51)
  replace f1 := f1.alloc (.cells #[.int .i64 x.ft.k, .int .i64 x.ft.s, .int .i64 x.ft.l, .bool x.ft.wk, .int .i64 x.ft.p] 51)
  obtain ⟨c2x0, c2x1, c2x2, c2x3, c2x4⟩ := cells5 r17
  go_wp2_with fail
  refine (none_any x.ft _).mono ?_
  rintro e v4 ⟨rfl, g4⟩
  clear c2x0 c2x1 c2x2 c2x3 c2x4
  rw [t4]
  replace hT1 := hT1.keep g4 (fun h => h)
  replace r8 := r8.keep g4 (fun h => h)
  replace r13 := r13.keep g4 (fun h => h)
  replace r17 := r17.keep g4 (fun h => h)
  replace f1 := f1.trans (g4.mono (fun _ _ h => h.elim))
  clear g4
  obtain ⟨c3x0, c3x1, c3x2, c3x3⟩ := row4 r8
  go_wp2_with fail
  refine (fill_any _ _ _ _ _ hT1 ix ⟨vm, sd, page, x.fr, x.ri⟩).mono ?_
  rintro e v9 ⟨rfl, g9, hT9⟩
  clear c3x0 c3x1 c3x2 c3x3
  have lt := lt2.out
  have l6 := l5.out
  replace r13 := r13.keep g9 (show _ ≠ _ by omega)
  replace r17 := r17.keep g9 (show _ ≠ _ by omega)
  replace f1 := f1.trans g9
  clear hT1 g9 lt l6 r8
  obtain ⟨c4x0, c4x1, c4x2, c4x3, c4x4⟩ := cells5 r17
  obtain ⟨c5x0, c5x1, c5x2, c5x3, c5x4⟩ := cells5 r13
  obtain ⟨z6x0, z6x1, z6x2, z6x3, z6x4⟩ := frozen5 r13
  go_wp2_with fail
  go_region
  go_wp2_with fail
  refine bodyPost_ret (ret_tf rfl rfl (r13.put5 _ _ _ _ _).drew rfl) rfl ?_
  exact ⟨rfl, (f1.put5 (Or.inl (by omega)) _ _ _ _ _).drew, hT9.keep ((Fr.refl (at' (w.heap.size + 1)) _).put5 (Or.inr rfl) _ _ _ _ _).drew (show _ ≠ _ by have := lt2.out; omega)⟩

set_option maxHeartbeats 4000000 in
theorem reach_cno (w : World) (p bf nf : Nat) (bs : List UInt8) (bt : Nat) (T : Nat → Ln) (fo mi vm sd first second page want ix : Int) (h : IsRam w p bf nf bs) (hT : IsTlb w bt T fo mi) (hfo : 0 ≤ fo ∧ fo < 1000000) (hmi : 0 ≤ mi ∧ mi < 1000000) (n1 : p ≠ bt) (n2 : bf ≠ bt) (h1 : ansB (idx T vm sd page 8) = true) (h2 : isR want = true) (h3 : bits .and .i64 (ansR T (idx T vm sd page 8)) want = 0) (x : Res) (hx : nested bs nf first second page want = x) (hk : x.ft.k ≠ 0) :
    Calls Try.prog 12 #[.pointer (some ⟨p, 0, none⟩), .pointer (some ⟨bt, 0, none⟩), .agg #[.int .i64 vm, .int .i64 sd, .int .i64 first, .int .i64 second], .int .i64 page, .int .i64 want, .int .i64 ix] w fun e w' => e = .returned (.tuple #[.int .i64 x.fr, .agg #[.int .i64 x.ft.k, .int .i64 x.ft.s, .int .i64 x.ft.l, .bool x.ft.wk, .int .i64 x.ft.p]]) ∧ Fr (at' bt) w w' ∧ IsTlb w' bt T (fo + moreF (idx T vm sd page 8)) (mi + moreM (idx T vm sd page 8)) := by
  have hs := fun w0 h0 => nested_any w0 p bf nf bs vm sd first second page want h0
  rw [hx] at hs
  have t4 : (x.ft.k == 0) = false := by simp [hk]
  clear hx hk
  have f1 := Fr.refl (at' bt) w
  have lt := hT.lt
  have t3 : (bits .and .i64 (ansR T (idx T vm sd page 8)) want != 0) = false := by simp [h3]
  clear h3
  have r8 := row_alloc w #[.int .i64 vm, .int .i64 sd, .int .i64 first, .int .i64 second] 38
  replace hT := hT.alloc (.cells #[.int .i64 vm, .int .i64 sd, .int .i64 first, .int .i64 second] 38)
  replace h := h.alloc (.cells #[.int .i64 vm, .int .i64 sd, .int .i64 first, .int .i64 second] 38)
  replace f1 := f1.alloc (.cells #[.int .i64 vm, .int .i64 sd, .int .i64 first, .int .i64 second] 38)
  have r13 := row_alloc2 w (.cells #[.int .i64 vm, .int .i64 sd, .int .i64 first, .int .i64 second] 38) #[.int .i64 0, .int .i64 0, .int .i64 0, .bool false, .int .i64 0] 51
  replace hT := hT.alloc (.cells #[.int .i64 0, .int .i64 0, .int .i64 0, .bool false, .int .i64 0] 51)
  replace r8 := r8.alloc (.cells #[.int .i64 0, .int .i64 0, .int .i64 0, .bool false, .int .i64 0] 51)
  replace h := h.alloc (.cells #[.int .i64 0, .int .i64 0, .int .i64 0, .bool false, .int .i64 0] 51)
  replace f1 := f1.alloc (.cells #[.int .i64 0, .int .i64 0, .int .i64 0, .bool false, .int .i64 0] 51)
  obtain ⟨c0x0, c0x1, c0x2, c0x3⟩ := row4 r8
  have lt2 : Hid (bt < w.heap.size) := lt
  clear lt
  go_enter Try.func12, Try.ntmps12
  go_wp2_with fail
  refine (find_any _ _ _ _ _ _ _ _ hT hfo hmi).mono ?_
  rintro e v1 ⟨rfl, g1, hT1⟩
  clear c0x0 c0x1 c0x2 c0x3
  have lt := lt2.out
  replace r8 := r8.keep g1 (show _ ≠ _ by omega)
  replace r13 := r13.keep g1 (show _ ≠ _ by omega)
  replace h := h.keep g1 n1 n2
  replace f1 := f1.trans g1
  clear hT g1 lt
  rw [h1]
  go_wp2_with fail
  refine (isRight_any _ _).mono ?_
  rintro e v2 ⟨rfl, rfl⟩
  rw [h2]
  obtain ⟨c1x0, c1x1, c1x2, c1x3⟩ := row4 r8
  go_wp2_with fail
  refine (hs _ h).mono ?_
  rintro e v3 ⟨rfl, g3⟩
  clear c1x0 c1x1 c1x2 c1x3
  replace hT1 := hT1.keep g3 (fun h => h)
  replace r8 := r8.keep g3 (fun h => h)
  replace r13 := r13.keep g3 (fun h => h)
  replace h := h.keep g3 (fun h => h) (fun h => h)
  replace f1 := f1.trans (g3.mono (fun _ _ h => h.elim))
  clear g3
  clear h hs
  have l5 : Hid (bt < v3.heap.size ∧ w.heap.size + 1 < v3.heap.size) := ⟨hT1.lt, r13.lt⟩
  have r17 := row_alloc v3 #[.int .i64 x.ft.k, .int .i64 x.ft.s, .int .i64 x.ft.l, .bool x.ft.wk, .int .i64 x.ft.p] 51
  replace hT1 := hT1.alloc (.cells #[.int .i64 x.ft.k, .int .i64 x.ft.s, .int .i64 x.ft.l, .bool x.ft.wk, .int .i64 x.ft.p] 51)
  replace r8 := r8.alloc (.cells #[.int .i64 x.ft.k, .int .i64 x.ft.s, .int .i64 x.ft.l, .bool x.ft.wk, .int .i64 x.ft.p] 51)
  replace r13 := r13.alloc (.cells #[.int .i64 x.ft.k, .int .i64 x.ft.s, .int .i64 x.ft.l, .bool x.ft.wk, .int .i64 x.ft.p] 51)
  replace f1 := f1.alloc (.cells #[.int .i64 x.ft.k, .int .i64 x.ft.s, .int .i64 x.ft.l, .bool x.ft.wk, .int .i64 x.ft.p] 51)
  obtain ⟨c2x0, c2x1, c2x2, c2x3, c2x4⟩ := cells5 r17
  go_wp2_with fail
  refine (none_any x.ft _).mono ?_
  rintro e v4 ⟨rfl, g4⟩
  clear c2x0 c2x1 c2x2 c2x3 c2x4
  rw [t4]
  replace hT1 := hT1.keep g4 (fun h => h)
  replace r8 := r8.keep g4 (fun h => h)
  replace r13 := r13.keep g4 (fun h => h)
  replace r17 := r17.keep g4 (fun h => h)
  replace f1 := f1.trans (g4.mono (fun _ _ h => h.elim))
  clear g4
  obtain ⟨c3x0, c3x1, c3x2, c3x3, c3x4⟩ := cells5 r17
  obtain ⟨c4x0, c4x1, c4x2, c4x3, c4x4⟩ := cells5 r13
  obtain ⟨z5x0, z5x1, z5x2, z5x3, z5x4⟩ := frozen5 r13
  go_wp2_with fail
  go_region
  go_wp2_with fail
  refine bodyPost_ret (ret_tf rfl rfl (r13.put5 _ _ _ _ _).drew rfl) rfl ?_
  exact ⟨rfl, (f1.put5 (Or.inl (by omega)) _ _ _ _ _).drew, hT1.keep ((Fr.refl (at' (w.heap.size + 1)) _).put5 (Or.inr rfl) _ _ _ _ _).drew (show _ ≠ _ by have := lt2.out; omega)⟩

set_option maxHeartbeats 4000000 in
theorem reach_cok (w : World) (p bf nf : Nat) (bs : List UInt8) (bt : Nat) (T : Nat → Ln) (fo mi vm sd first second page want ix : Int) (h : IsRam w p bf nf bs) (hT : IsTlb w bt T fo mi) (hfo : 0 ≤ fo ∧ fo < 1000000) (hmi : 0 ≤ mi ∧ mi < 1000000) (n1 : p ≠ bt) (n2 : bf ≠ bt) (h1 : ansB (idx T vm sd page 8) = true) (h2 : isR want = true) (h3 : bits .and .i64 (ansR T (idx T vm sd page 8)) want = 0) (x : Res) (hx : nested bs nf first second page want = x) (hk : x.ft.k = 0) :
    Calls Try.prog 12 #[.pointer (some ⟨p, 0, none⟩), .pointer (some ⟨bt, 0, none⟩), .agg #[.int .i64 vm, .int .i64 sd, .int .i64 first, .int .i64 second], .int .i64 page, .int .i64 want, .int .i64 ix] w fun e w' => e = .returned (.tuple #[.int .i64 x.fr, .agg #[.int .i64 x.ft.k, .int .i64 x.ft.s, .int .i64 x.ft.l, .bool x.ft.wk, .int .i64 x.ft.p]]) ∧ Fr (at' bt) w w' ∧ IsTlb w' bt (fillT T ix ⟨vm, sd, page, x.fr, x.ri⟩) (fo + moreF (idx T vm sd page 8)) (mi + moreM (idx T vm sd page 8)) := by
  have hs := fun w0 h0 => nested_any w0 p bf nf bs vm sd first second page want h0
  rw [hx] at hs
  have t4 : (x.ft.k == 0) = true := by simp [hk]
  clear hx hk
  have f1 := Fr.refl (at' bt) w
  have lt := hT.lt
  have t3 : (bits .and .i64 (ansR T (idx T vm sd page 8)) want != 0) = false := by simp [h3]
  clear h3
  have r8 := row_alloc w #[.int .i64 vm, .int .i64 sd, .int .i64 first, .int .i64 second] 38
  replace hT := hT.alloc (.cells #[.int .i64 vm, .int .i64 sd, .int .i64 first, .int .i64 second] 38)
  replace h := h.alloc (.cells #[.int .i64 vm, .int .i64 sd, .int .i64 first, .int .i64 second] 38)
  replace f1 := f1.alloc (.cells #[.int .i64 vm, .int .i64 sd, .int .i64 first, .int .i64 second] 38)
  have r13 := row_alloc2 w (.cells #[.int .i64 vm, .int .i64 sd, .int .i64 first, .int .i64 second] 38) #[.int .i64 0, .int .i64 0, .int .i64 0, .bool false, .int .i64 0] 51
  replace hT := hT.alloc (.cells #[.int .i64 0, .int .i64 0, .int .i64 0, .bool false, .int .i64 0] 51)
  replace r8 := r8.alloc (.cells #[.int .i64 0, .int .i64 0, .int .i64 0, .bool false, .int .i64 0] 51)
  replace h := h.alloc (.cells #[.int .i64 0, .int .i64 0, .int .i64 0, .bool false, .int .i64 0] 51)
  replace f1 := f1.alloc (.cells #[.int .i64 0, .int .i64 0, .int .i64 0, .bool false, .int .i64 0] 51)
  obtain ⟨c0x0, c0x1, c0x2, c0x3⟩ := row4 r8
  have lt2 : Hid (bt < w.heap.size) := lt
  clear lt
  go_enter Try.func12, Try.ntmps12
  go_wp2_with fail
  refine (find_any _ _ _ _ _ _ _ _ hT hfo hmi).mono ?_
  rintro e v1 ⟨rfl, g1, hT1⟩
  clear c0x0 c0x1 c0x2 c0x3
  have lt := lt2.out
  replace r8 := r8.keep g1 (show _ ≠ _ by omega)
  replace r13 := r13.keep g1 (show _ ≠ _ by omega)
  replace h := h.keep g1 n1 n2
  replace f1 := f1.trans g1
  clear hT g1 lt
  rw [h1]
  go_wp2_with fail
  refine (isRight_any _ _).mono ?_
  rintro e v2 ⟨rfl, rfl⟩
  rw [h2]
  obtain ⟨c1x0, c1x1, c1x2, c1x3⟩ := row4 r8
  go_wp2_with fail
  refine (hs _ h).mono ?_
  rintro e v3 ⟨rfl, g3⟩
  clear c1x0 c1x1 c1x2 c1x3
  replace hT1 := hT1.keep g3 (fun h => h)
  replace r8 := r8.keep g3 (fun h => h)
  replace r13 := r13.keep g3 (fun h => h)
  replace h := h.keep g3 (fun h => h) (fun h => h)
  replace f1 := f1.trans (g3.mono (fun _ _ h => h.elim))
  clear g3
  clear h hs
  have l5 : Hid (bt < v3.heap.size ∧ w.heap.size + 1 < v3.heap.size) := ⟨hT1.lt, r13.lt⟩
  have r17 := row_alloc v3 #[.int .i64 x.ft.k, .int .i64 x.ft.s, .int .i64 x.ft.l, .bool x.ft.wk, .int .i64 x.ft.p] 51
  replace hT1 := hT1.alloc (.cells #[.int .i64 x.ft.k, .int .i64 x.ft.s, .int .i64 x.ft.l, .bool x.ft.wk, .int .i64 x.ft.p] 51)
  replace r8 := r8.alloc (.cells #[.int .i64 x.ft.k, .int .i64 x.ft.s, .int .i64 x.ft.l, .bool x.ft.wk, .int .i64 x.ft.p] 51)
  replace r13 := r13.alloc (.cells #[.int .i64 x.ft.k, .int .i64 x.ft.s, .int .i64 x.ft.l, .bool x.ft.wk, .int .i64 x.ft.p] 51)
  replace f1 := f1.alloc (.cells #[.int .i64 x.ft.k, .int .i64 x.ft.s, .int .i64 x.ft.l, .bool x.ft.wk, .int .i64 x.ft.p] 51)
  obtain ⟨c2x0, c2x1, c2x2, c2x3, c2x4⟩ := cells5 r17
  go_wp2_with fail
  refine (none_any x.ft _).mono ?_
  rintro e v4 ⟨rfl, g4⟩
  clear c2x0 c2x1 c2x2 c2x3 c2x4
  rw [t4]
  replace hT1 := hT1.keep g4 (fun h => h)
  replace r8 := r8.keep g4 (fun h => h)
  replace r13 := r13.keep g4 (fun h => h)
  replace r17 := r17.keep g4 (fun h => h)
  replace f1 := f1.trans (g4.mono (fun _ _ h => h.elim))
  clear g4
  obtain ⟨c3x0, c3x1, c3x2, c3x3⟩ := row4 r8
  go_wp2_with fail
  refine (fill_any _ _ _ _ _ hT1 ix ⟨vm, sd, page, x.fr, x.ri⟩).mono ?_
  rintro e v9 ⟨rfl, g9, hT9⟩
  clear c3x0 c3x1 c3x2 c3x3
  have lt := lt2.out
  have l6 := l5.out
  replace r13 := r13.keep g9 (show _ ≠ _ by omega)
  replace r17 := r17.keep g9 (show _ ≠ _ by omega)
  replace f1 := f1.trans g9
  clear hT1 g9 lt l6 r8
  obtain ⟨c4x0, c4x1, c4x2, c4x3, c4x4⟩ := cells5 r17
  obtain ⟨c5x0, c5x1, c5x2, c5x3, c5x4⟩ := cells5 r13
  obtain ⟨z6x0, z6x1, z6x2, z6x3, z6x4⟩ := frozen5 r13
  go_wp2_with fail
  go_region
  go_wp2_with fail
  refine bodyPost_ret (ret_tf rfl rfl (r13.put5 _ _ _ _ _).drew rfl) rfl ?_
  exact ⟨rfl, (f1.put5 (Or.inl (by omega)) _ _ _ _ _).drew, hT9.keep ((Fr.refl (at' (w.heap.size + 1)) _).put5 (Or.inr rfl) _ _ _ _ _).drew (show _ ≠ _ by have := lt2.out; omega)⟩

/-- Whether the buffer answers. -/
def hitR (T : Nat → Ln) (vm sd page want : Int) : Bool := ansB (idx T vm sd page 8) && (isR want && (bits .and .i64 (ansR T (idx T vm sd page 8)) want != 0))
def reachF (bs : List UInt8) (nf : Nat) (T : Nat → Ln) (vm sd first second page want : Int) : Int := if hitR T vm sd page want = true then ansF T (idx T vm sd page 8) else (nested bs nf first second page want).fr
def reachX (bs : List UInt8) (nf : Nat) (T : Nat → Ln) (vm sd first second page want : Int) : Ft := if hitR T vm sd page want = true then f0 else (nested bs nf first second page want).ft
def reachT (bs : List UInt8) (nf : Nat) (T : Nat → Ln) (vm sd first second page want ix : Int) : Nat → Ln :=
  if hitR T vm sd page want = true then T else if (nested bs nf first second page want).ft.k = 0 then fillT T ix ⟨vm, sd, page, (nested bs nf first second page want).fr, (nested bs nf first second page want).ri⟩ else T

theorem reach_any (w : World) (p bf nf : Nat) (bs : List UInt8) (bt : Nat) (T : Nat → Ln) (fo mi vm sd first second page want ix : Int) (h : IsRam w p bf nf bs) (hT : IsTlb w bt T fo mi) (hfo : 0 ≤ fo ∧ fo < 1000000) (hmi : 0 ≤ mi ∧ mi < 1000000) (n1 : p ≠ bt) (n2 : bf ≠ bt) :
    Calls Try.prog 12 #[.pointer (some ⟨p, 0, none⟩), .pointer (some ⟨bt, 0, none⟩), .agg #[.int .i64 vm, .int .i64 sd, .int .i64 first, .int .i64 second], .int .i64 page, .int .i64 want, .int .i64 ix] w fun e w' => e = .returned (.tuple #[.int .i64 (reachF bs nf T vm sd first second page want), .agg #[.int .i64 (reachX bs nf T vm sd first second page want).k, .int .i64 (reachX bs nf T vm sd first second page want).s, .int .i64 (reachX bs nf T vm sd first second page want).l, .bool (reachX bs nf T vm sd first second page want).wk, .int .i64 (reachX bs nf T vm sd first second page want).p]]) ∧ Fr (at' bt) w w' ∧ IsTlb w' bt (reachT bs nf T vm sd first second page want ix) (fo + moreF (idx T vm sd page 8)) (mi + moreM (idx T vm sd page 8)) := by
  have miss : hitR T vm sd page want = false → (reachF bs nf T vm sd first second page want = (nested bs nf first second page want).fr ∧ reachX bs nf T vm sd first second page want = (nested bs nf first second page want).ft ∧
      reachT bs nf T vm sd first second page want ix = if (nested bs nf first second page want).ft.k = 0 then fillT T ix ⟨vm, sd, page, (nested bs nf first second page want).fr, (nested bs nf first second page want).ri⟩ else T) := fun hh => by
    unfold reachF reachX reachT
    rw [if_neg (by simp [hh]), if_neg (by simp [hh]), if_neg (by simp [hh])]
    exact ⟨rfl, rfl, rfl⟩
  cases h1 : ansB (idx T vm sd page 8) with
  | false =>
    obtain ⟨e1, e2, e3⟩ := miss (by simp [hitR, h1])
    rw [e1, e2, e3]
    by_cases hk : (nested bs nf first second page want).ft.k = 0
    · rw [if_pos hk]; exact reach_aok w p bf nf bs bt T fo mi vm sd first second page want ix h hT hfo hmi n1 n2 h1 _ rfl hk
    · rw [if_neg hk]; exact reach_ano w p bf nf bs bt T fo mi vm sd first second page want ix h hT hfo hmi n1 n2 h1 _ rfl hk
  | true =>
    cases h2 : isR want with
    | false =>
      obtain ⟨e1, e2, e3⟩ := miss (by simp [hitR, h2])
      rw [e1, e2, e3]
      by_cases hk : (nested bs nf first second page want).ft.k = 0
      · rw [if_pos hk]; exact reach_bok w p bf nf bs bt T fo mi vm sd first second page want ix h hT hfo hmi n1 n2 h1 h2 _ rfl hk
      · rw [if_neg hk]; exact reach_bno w p bf nf bs bt T fo mi vm sd first second page want ix h hT hfo hmi n1 n2 h1 h2 _ rfl hk
    | true =>
      by_cases h3 : bits .and .i64 (ansR T (idx T vm sd page 8)) want = 0
      · obtain ⟨e1, e2, e3⟩ := miss (by simp [hitR, h3])
        rw [e1, e2, e3]
        by_cases hk : (nested bs nf first second page want).ft.k = 0
        · rw [if_pos hk]; exact reach_cok w p bf nf bs bt T fo mi vm sd first second page want ix h hT hfo hmi n1 n2 h1 h2 h3 _ rfl hk
        · rw [if_neg hk]; exact reach_cno w p bf nf bs bt T fo mi vm sd first second page want ix h hT hfo hmi n1 n2 h1 h2 h3 _ rfl hk
      · have hh : hitR T vm sd page want = true := by simp [hitR, h1, h2, h3]
        have e1 : reachF bs nf T vm sd first second page want = ansF T (idx T vm sd page 8) := by unfold reachF; rw [if_pos hh]
        have e2 : reachX bs nf T vm sd first second page want = f0 := by unfold reachX; rw [if_pos hh]
        have e3 : reachT bs nf T vm sd first second page want ix = T := by unfold reachT; rw [if_pos hh]
        rw [e1, e2, e3]
        exact reach_hit w p bf nf bs bt T fo mi vm sd first second page want ix h hT hfo hmi n1 n2 h1 h2 h3

end Go.Proofs.Ytknpjfbjalboeaa
