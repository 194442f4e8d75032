/-
  The contract of the document's Reach (package viceroyref04) over the translation: by the buffer, or by both tables, and then filled. No statement is proved here.
-/
import Derived.Test.YtknpjfbjalboeaaWalkReachC
import Derived.Test.YtknpjfbjalboeaaWalkRefN
import Derived.Test.YtknpjfbjalboeaaWalkPure
namespace Go.Proofs.Ytknpjfbjalboeaa
open Go.RowKit

set_option maxHeartbeats 2000000 in
theorem rreach_hit1 (w : World) (p bf nf : Nat) (bs : List UInt8) (bt : Nat) (T : Nat → Ln) (fo mi vm sd first second page ix : Int) (h : IsRef w p bf nf bs) (hT : IsTref w bt T fo mi) (hG : GoodT T) (_hU : Uniq T) (hfo : 0 ≤ fo ∧ fo < 1000000) (hmi : 0 ≤ mi ∧ mi < 1000000) (n1 : p ≠ bt) (n2 : bf ≠ bt) (h1 : ansB (idx T vm sd page 8) = true) (h3 : bits .and .i64 (ansR T (idx T vm sd page 8)) 1 ≠ 0) :
    Calls Try.prog 13 #[.pointer (some ⟨p, 0, none⟩), .pointer (some ⟨bt, 0, none⟩), .agg #[.int .i64 vm, .int .i64 sd, .int .i64 first, .int .i64 second], .int .i64 page, .int .i64 1, .int .i64 ix] w fun e w' => e = .returned (.tuple #[.int .i64 (ansF T (idx T vm sd page 8)), .agg #[.int .i64 0, .int .i64 0, .int .i64 0, .bool false, .int .i64 0]]) ∧ Fr (at' bt) w w' ∧ IsTref w' bt T (fo + moreF (idx T vm sd page 8)) (mi + moreM (idx T vm sd page 8)) := by
  have f1 := Fr.refl (at' bt) w
  have lt := hT.lt
  have t3 : (bits .and .i64 (ansR T (idx T vm sd page 8)) 1 != 0) = true := by simp [h3]
  clear h3
  have r8 := row_alloc w #[.int .i64 vm, .int .i64 sd, .int .i64 first, .int .i64 second] 38
  replace hT := hT.alloc (.cells #[.int .i64 vm, .int .i64 sd, .int .i64 first, .int .i64 second] 38)
  replace h := h.alloc (.cells #[.int .i64 vm, .int .i64 sd, .int .i64 first, .int .i64 second] 38)
  replace f1 := f1.alloc (.cells #[.int .i64 vm, .int .i64 sd, .int .i64 first, .int .i64 second] 38)
  have r13 := row_alloc2 w (.cells #[.int .i64 vm, .int .i64 sd, .int .i64 first, .int .i64 second] 38) #[.int .i64 0, .int .i64 0, .int .i64 0, .bool false, .int .i64 0] 51
  replace hT := hT.alloc (.cells #[.int .i64 0, .int .i64 0, .int .i64 0, .bool false, .int .i64 0] 51)
  replace r8 := r8.alloc (.cells #[.int .i64 0, .int .i64 0, .int .i64 0, .bool false, .int .i64 0] 51)
  replace h := h.alloc (.cells #[.int .i64 0, .int .i64 0, .int .i64 0, .bool false, .int .i64 0] 51)
  replace f1 := f1.alloc (.cells #[.int .i64 0, .int .i64 0, .int .i64 0, .bool false, .int .i64 0] 51)
  obtain ⟨c0x0, c0x1, c0x2, c0x3⟩ := row4 r8
  have lt2 : Hid (bt < w.heap.size) := lt
  clear lt
  go_enter Try.func13, Try.ntmps13
  go_wp2_with fail
  refine (rfind_any _ _ _ _ _ _ _ _ hT hG hfo hmi).mono ?_
  rintro e v1 ⟨rfl, g1, hT1⟩
  clear c0x0 c0x1 c0x2 c0x3
  have lt := lt2.out
  replace r8 := r8.keep g1 (show _ ≠ _ by omega)
  replace r13 := r13.keep g1 (show _ ≠ _ by omega)
  replace h := h.keep g1 n1 n2
  replace f1 := f1.trans g1
  clear hT g1 lt
  rw [h1]
  obtain ⟨c1x0, c1x1, c1x2, c1x3, c1x4⟩ := cells5 r13
  obtain ⟨z2x0, z2x1, z2x2, z2x3, z2x4⟩ := frozen5 r13
  go_wp2_with fail
  refine bodyPost_ret (ret_tf rfl rfl (r13.put5 _ _ _ _ _) rfl) rfl ?_
  exact ⟨rfl, f1.put5 (Or.inl (by omega)) _ _ _ _ _, hT1.keep ((Fr.refl (at' (w.heap.size + 1)) _).put5 (Or.inr rfl) _ _ _ _ _) (show _ ≠ _ by have := lt2.out; omega)⟩

set_option maxHeartbeats 2000000 in
theorem rreach_hit2 (w : World) (p bf nf : Nat) (bs : List UInt8) (bt : Nat) (T : Nat → Ln) (fo mi vm sd first second page ix : Int) (h : IsRef w p bf nf bs) (hT : IsTref w bt T fo mi) (hG : GoodT T) (_hU : Uniq T) (hfo : 0 ≤ fo ∧ fo < 1000000) (hmi : 0 ≤ mi ∧ mi < 1000000) (n1 : p ≠ bt) (n2 : bf ≠ bt) (h1 : ansB (idx T vm sd page 8) = true) (h3 : bits .and .i64 (ansR T (idx T vm sd page 8)) 2 ≠ 0) :
    Calls Try.prog 13 #[.pointer (some ⟨p, 0, none⟩), .pointer (some ⟨bt, 0, none⟩), .agg #[.int .i64 vm, .int .i64 sd, .int .i64 first, .int .i64 second], .int .i64 page, .int .i64 2, .int .i64 ix] w fun e w' => e = .returned (.tuple #[.int .i64 (ansF T (idx T vm sd page 8)), .agg #[.int .i64 0, .int .i64 0, .int .i64 0, .bool false, .int .i64 0]]) ∧ Fr (at' bt) w w' ∧ IsTref w' bt T (fo + moreF (idx T vm sd page 8)) (mi + moreM (idx T vm sd page 8)) := by
  have f1 := Fr.refl (at' bt) w
  have lt := hT.lt
  have t3 : (bits .and .i64 (ansR T (idx T vm sd page 8)) 2 != 0) = true := by simp [h3]
  clear h3
  have r8 := row_alloc w #[.int .i64 vm, .int .i64 sd, .int .i64 first, .int .i64 second] 38
  replace hT := hT.alloc (.cells #[.int .i64 vm, .int .i64 sd, .int .i64 first, .int .i64 second] 38)
  replace h := h.alloc (.cells #[.int .i64 vm, .int .i64 sd, .int .i64 first, .int .i64 second] 38)
  replace f1 := f1.alloc (.cells #[.int .i64 vm, .int .i64 sd, .int .i64 first, .int .i64 second] 38)
  have r13 := row_alloc2 w (.cells #[.int .i64 vm, .int .i64 sd, .int .i64 first, .int .i64 second] 38) #[.int .i64 0, .int .i64 0, .int .i64 0, .bool false, .int .i64 0] 51
  replace hT := hT.alloc (.cells #[.int .i64 0, .int .i64 0, .int .i64 0, .bool false, .int .i64 0] 51)
  replace r8 := r8.alloc (.cells #[.int .i64 0, .int .i64 0, .int .i64 0, .bool false, .int .i64 0] 51)
  replace h := h.alloc (.cells #[.int .i64 0, .int .i64 0, .int .i64 0, .bool false, .int .i64 0] 51)
  replace f1 := f1.alloc (.cells #[.int .i64 0, .int .i64 0, .int .i64 0, .bool false, .int .i64 0] 51)
  obtain ⟨c0x0, c0x1, c0x2, c0x3⟩ := row4 r8
  have lt2 : Hid (bt < w.heap.size) := lt
  clear lt
  go_enter Try.func13, Try.ntmps13
  go_wp2_with fail
  refine (rfind_any _ _ _ _ _ _ _ _ hT hG hfo hmi).mono ?_
  rintro e v1 ⟨rfl, g1, hT1⟩
  clear c0x0 c0x1 c0x2 c0x3
  have lt := lt2.out
  replace r8 := r8.keep g1 (show _ ≠ _ by omega)
  replace r13 := r13.keep g1 (show _ ≠ _ by omega)
  replace h := h.keep g1 n1 n2
  replace f1 := f1.trans g1
  clear hT g1 lt
  rw [h1]
  obtain ⟨c1x0, c1x1, c1x2, c1x3, c1x4⟩ := cells5 r13
  obtain ⟨z2x0, z2x1, z2x2, z2x3, z2x4⟩ := frozen5 r13
  go_wp2_with fail
  refine bodyPost_ret (ret_tf rfl rfl (r13.put5 _ _ _ _ _) rfl) rfl ?_
  exact ⟨rfl, f1.put5 (Or.inl (by omega)) _ _ _ _ _, hT1.keep ((Fr.refl (at' (w.heap.size + 1)) _).put5 (Or.inr rfl) _ _ _ _ _) (show _ ≠ _ by have := lt2.out; omega)⟩

set_option maxHeartbeats 2000000 in
theorem rreach_hit4 (w : World) (p bf nf : Nat) (bs : List UInt8) (bt : Nat) (T : Nat → Ln) (fo mi vm sd first second page ix : Int) (h : IsRef w p bf nf bs) (hT : IsTref w bt T fo mi) (hG : GoodT T) (_hU : Uniq T) (hfo : 0 ≤ fo ∧ fo < 1000000) (hmi : 0 ≤ mi ∧ mi < 1000000) (n1 : p ≠ bt) (n2 : bf ≠ bt) (h1 : ansB (idx T vm sd page 8) = true) (h3 : bits .and .i64 (ansR T (idx T vm sd page 8)) 4 ≠ 0) :
    Calls Try.prog 13 #[.pointer (some ⟨p, 0, none⟩), .pointer (some ⟨bt, 0, none⟩), .agg #[.int .i64 vm, .int .i64 sd, .int .i64 first, .int .i64 second], .int .i64 page, .int .i64 4, .int .i64 ix] w fun e w' => e = .returned (.tuple #[.int .i64 (ansF T (idx T vm sd page 8)), .agg #[.int .i64 0, .int .i64 0, .int .i64 0, .bool false, .int .i64 0]]) ∧ Fr (at' bt) w w' ∧ IsTref w' bt T (fo + moreF (idx T vm sd page 8)) (mi + moreM (idx T vm sd page 8)) := by
  have f1 := Fr.refl (at' bt) w
  have lt := hT.lt
  have t3 : (bits .and .i64 (ansR T (idx T vm sd page 8)) 4 != 0) = true := by simp [h3]
  clear h3
  have r8 := row_alloc w #[.int .i64 vm, .int .i64 sd, .int .i64 first, .int .i64 second] 38
  replace hT := hT.alloc (.cells #[.int .i64 vm, .int .i64 sd, .int .i64 first, .int .i64 second] 38)
  replace h := h.alloc (.cells #[.int .i64 vm, .int .i64 sd, .int .i64 first, .int .i64 second] 38)
  replace f1 := f1.alloc (.cells #[.int .i64 vm, .int .i64 sd, .int .i64 first, .int .i64 second] 38)
  have r13 := row_alloc2 w (.cells #[.int .i64 vm, .int .i64 sd, .int .i64 first, .int .i64 second] 38) #[.int .i64 0, .int .i64 0, .int .i64 0, .bool false, .int .i64 0] 51
  replace hT := hT.alloc (.cells #[.int .i64 0, .int .i64 0, .int .i64 0, .bool false, .int .i64 0] 51)
  replace r8 := r8.alloc (.cells #[.int .i64 0, .int .i64 0, .int .i64 0, .bool false, .int .i64 0] 51)
  replace h := h.alloc (.cells #[.int .i64 0, .int .i64 0, .int .i64 0, .bool false, .int .i64 0] 51)
  replace f1 := f1.alloc (.cells #[.int .i64 0, .int .i64 0, .int .i64 0, .bool false, .int .i64 0] 51)
  obtain ⟨c0x0, c0x1, c0x2, c0x3⟩ := row4 r8
  have lt2 : Hid (bt < w.heap.size) := lt
  clear lt
  go_enter Try.func13, Try.ntmps13
  go_wp2_with fail
  refine (rfind_any _ _ _ _ _ _ _ _ hT hG hfo hmi).mono ?_
  rintro e v1 ⟨rfl, g1, hT1⟩
  clear c0x0 c0x1 c0x2 c0x3
  have lt := lt2.out
  replace r8 := r8.keep g1 (show _ ≠ _ by omega)
  replace r13 := r13.keep g1 (show _ ≠ _ by omega)
  replace h := h.keep g1 n1 n2
  replace f1 := f1.trans g1
  clear hT g1 lt
  rw [h1]
  obtain ⟨c1x0, c1x1, c1x2, c1x3, c1x4⟩ := cells5 r13
  obtain ⟨z2x0, z2x1, z2x2, z2x3, z2x4⟩ := frozen5 r13
  go_wp2_with fail
  refine bodyPost_ret (ret_tf rfl rfl (r13.put5 _ _ _ _ _) rfl) rfl ?_
  exact ⟨rfl, f1.put5 (Or.inl (by omega)) _ _ _ _ _, hT1.keep ((Fr.refl (at' (w.heap.size + 1)) _).put5 (Or.inr rfl) _ _ _ _ _) (show _ ≠ _ by have := lt2.out; omega)⟩

set_option maxHeartbeats 4000000 in
theorem rreach_ano (w : World) (p bf nf : Nat) (bs : List UInt8) (bt : Nat) (T : Nat → Ln) (fo mi vm sd first second page want ix : Int) (h : IsRef w p bf nf bs) (hT : IsTref w bt T fo mi) (hG : GoodT T) (_hU : Uniq T) (hfo : 0 ≤ fo ∧ fo < 1000000) (hmi : 0 ≤ mi ∧ mi < 1000000) (n1 : p ≠ bt) (n2 : bf ≠ bt) (h1 : ansB (idx T vm sd page 8) = false) (x : Res) (hx : nested bs nf first second page want = x) (hk : x.ft.k ≠ 0) :
    Calls Try.prog 13 #[.pointer (some ⟨p, 0, none⟩), .pointer (some ⟨bt, 0, none⟩), .agg #[.int .i64 vm, .int .i64 sd, .int .i64 first, .int .i64 second], .int .i64 page, .int .i64 want, .int .i64 ix] w fun e w' => e = .returned (.tuple #[.int .i64 0, .agg #[.int .i64 x.ft.k, .int .i64 x.ft.s, .int .i64 x.ft.l, .bool x.ft.wk, .int .i64 x.ft.p]]) ∧ Fr (at' bt) w w' ∧ IsTref w' bt T (fo + moreF (idx T vm sd page 8)) (mi + moreM (idx T vm sd page 8)) := by
  have hs := fun w0 h0 => rnested_any w0 p bf nf bs vm sd first second page want h0
  rw [hx] at hs
  have t4 : (x.ft.k != 0) = true := by simp [hk]
  clear hx hk
  have f1 := Fr.refl (at' bt) w
  have lt := hT.lt
  have r8 := row_alloc w #[.int .i64 vm, .int .i64 sd, .int .i64 first, .int .i64 second] 38
  replace hT := hT.alloc (.cells #[.int .i64 vm, .int .i64 sd, .int .i64 first, .int .i64 second] 38)
  replace h := h.alloc (.cells #[.int .i64 vm, .int .i64 sd, .int .i64 first, .int .i64 second] 38)
  replace f1 := f1.alloc (.cells #[.int .i64 vm, .int .i64 sd, .int .i64 first, .int .i64 second] 38)
  have r13 := row_alloc2 w (.cells #[.int .i64 vm, .int .i64 sd, .int .i64 first, .int .i64 second] 38) #[.int .i64 0, .int .i64 0, .int .i64 0, .bool false, .int .i64 0] 51
  replace hT := hT.alloc (.cells #[.int .i64 0, .int .i64 0, .int .i64 0, .bool false, .int .i64 0] 51)
  replace r8 := r8.alloc (.cells #[.int .i64 0, .int .i64 0, .int .i64 0, .bool false, .int .i64 0] 51)
  replace h := h.alloc (.cells #[.int .i64 0, .int .i64 0, .int .i64 0, .bool false, .int .i64 0] 51)
  replace f1 := f1.alloc (.cells #[.int .i64 0, .int .i64 0, .int .i64 0, .bool false, .int .i64 0] 51)
  obtain ⟨c0x0, c0x1, c0x2, c0x3⟩ := row4 r8
  have lt2 : Hid (bt < w.heap.size) := lt
  clear lt
  go_enter Try.func13, Try.ntmps13
  go_wp2_with fail
  refine (rfind_any _ _ _ _ _ _ _ _ hT hG hfo hmi).mono ?_
  rintro e v1 ⟨rfl, g1, hT1⟩
  clear c0x0 c0x1 c0x2 c0x3
  have lt := lt2.out
  replace r8 := r8.keep g1 (show _ ≠ _ by omega)
  replace r13 := r13.keep g1 (show _ ≠ _ by omega)
  replace h := h.keep g1 n1 n2
  replace f1 := f1.trans g1
  clear hT g1 lt
  rw [h1]
  obtain ⟨c1x0, c1x1, c1x2, c1x3⟩ := row4 r8
  go_wp2_with fail
  refine (hs _ h).mono ?_
  rintro e v2 ⟨rfl, g2⟩
  clear c1x0 c1x1 c1x2 c1x3
  replace hT1 := hT1.keep g2 (fun h => h)
  replace r8 := r8.keep g2 (fun h => h)
  replace r13 := r13.keep g2 (fun h => h)
  replace h := h.keep g2 (fun h => h) (fun h => h)
  replace f1 := f1.trans (g2.mono (fun _ _ h => h.elim))
  clear g2
  clear h hs
  have l5 : Hid (bt < v2.heap.size ∧ w.heap.size + 1 < v2.heap.size) := ⟨hT1.lt, r13.lt⟩
  have r17 := row_alloc v2 #[.int .i64 x.ft.k, .int .i64 x.ft.s, .int .i64 x.ft.l, .bool x.ft.wk, .int .i64 x.ft.p] 51
  replace hT1 := hT1.alloc (.cells #[.int .i64 x.ft.k, .int .i64 x.ft.s, .int .i64 x.ft.l, .bool x.ft.wk, .int .i64 x.ft.p] 51)
  replace r8 := r8.alloc (.cells #[.int .i64 x.ft.k, .int .i64 x.ft.s, .int .i64 x.ft.l, .bool x.ft.wk, .int .i64 x.ft.p] 51)
  replace r13 := r13.alloc (.cells #[.int .i64 x.ft.k, .int .i64 x.ft.s, .int .i64 x.ft.l, .bool x.ft.wk, .int .i64 x.ft.p] 51)
  replace f1 := f1.alloc (.cells #[.int .i64 x.ft.k, .int .i64 x.ft.s, .int .i64 x.ft.l, .bool x.ft.wk, .int .i64 x.ft.p] 51)
  obtain ⟨c2x0, c2x1, c2x2, c2x3, c2x4⟩ := cells5 r17
  obtain ⟨c3x0, c3x1, c3x2, c3x3, c3x4⟩ := cells5 r13
  obtain ⟨z4x0, z4x1, z4x2, z4x3, z4x4⟩ := frozen5 r13
  go_wp2_with fail
  go_region
  go_wp2_with fail
  refine bodyPost_ret (ret_tf rfl rfl (r13.put5 _ _ _ _ _).drew rfl) rfl ?_
  exact ⟨rfl, (f1.put5 (Or.inl (by omega)) _ _ _ _ _).drew, hT1.keep ((Fr.refl (at' (w.heap.size + 1)) _).put5 (Or.inr rfl) _ _ _ _ _).drew (show _ ≠ _ by have := lt2.out; omega)⟩

set_option maxHeartbeats 4000000 in
theorem rreach_aok (w : World) (p bf nf : Nat) (bs : List UInt8) (bt : Nat) (T : Nat → Ln) (fo mi vm sd first second page want ix : Int) (h : IsRef w p bf nf bs) (hT : IsTref w bt T fo mi) (hG : GoodT T) (hU : Uniq T) (hfo : 0 ≤ fo ∧ fo < 1000000) (hmi : 0 ≤ mi ∧ mi < 1000000) (n1 : p ≠ bt) (n2 : bf ≠ bt) (h1 : ansB (idx T vm sd page 8) = false) (x : Res) (hx : nested bs nf first second page want = x) (hk : x.ft.k = 0) :
    Calls Try.prog 13 #[.pointer (some ⟨p, 0, none⟩), .pointer (some ⟨bt, 0, none⟩), .agg #[.int .i64 vm, .int .i64 sd, .int .i64 first, .int .i64 second], .int .i64 page, .int .i64 want, .int .i64 ix] w fun e w' => e = .returned (.tuple #[.int .i64 x.fr, .agg #[.int .i64 x.ft.k, .int .i64 x.ft.s, .int .i64 x.ft.l, .bool x.ft.wk, .int .i64 x.ft.p]]) ∧ Fr (at' bt) w w' ∧ IsTref w' bt (fillT T ix ⟨vm, sd, page, x.fr, x.ri⟩) (fo + moreF (idx T vm sd page 8)) (mi + moreM (idx T vm sd page 8)) := by
  have hs := fun w0 h0 => rnested_any w0 p bf nf bs vm sd first second page want h0
  rw [hx] at hs
  have t4 : (x.ft.k != 0) = false := by simp [hk]
  clear hx hk
  have f1 := Fr.refl (at' bt) w
  have lt := hT.lt
  have r8 := row_alloc w #[.int .i64 vm, .int .i64 sd, .int .i64 first, .int .i64 second] 38
  replace hT := hT.alloc (.cells #[.int .i64 vm, .int .i64 sd, .int .i64 first, .int .i64 second] 38)
  replace h := h.alloc (.cells #[.int .i64 vm, .int .i64 sd, .int .i64 first, .int .i64 second] 38)
  replace f1 := f1.alloc (.cells #[.int .i64 vm, .int .i64 sd, .int .i64 first, .int .i64 second] 38)
  have r13 := row_alloc2 w (.cells #[.int .i64 vm, .int .i64 sd, .int .i64 first, .int .i64 second] 38) #[.int .i64 0, .int .i64 0, .int .i64 0, .bool false, .int .i64 0] 51
  replace hT := hT.alloc (.cells #[.int .i64 0, .int .i64 0, .int .i64 0, .bool false, .int .i64 0] 51)
  replace r8 := r8.alloc (.cells #[.int .i64 0, .int .i64 0, .int .i64 0, .bool false, .int .i64 0] 51)
  replace h := h.alloc (.cells #[.int .i64 0, .int .i64 0, .int .i64 0, .bool false, .int .i64 0] 51)
  replace f1 := f1.alloc (.cells #[.int .i64 0, .int .i64 0, .int .i64 0, .bool false, .int .i64 0] 51)
  obtain ⟨c0x0, c0x1, c0x2, c0x3⟩ := row4 r8
  have lt2 : Hid (bt < w.heap.size) := lt
  clear lt
  go_enter Try.func13, Try.ntmps13
  go_wp2_with fail
  refine (rfind_any _ _ _ _ _ _ _ _ hT hG hfo hmi).mono ?_
  rintro e v1 ⟨rfl, g1, hT1⟩
  clear c0x0 c0x1 c0x2 c0x3
  have lt := lt2.out
  replace r8 := r8.keep g1 (show _ ≠ _ by omega)
  replace r13 := r13.keep g1 (show _ ≠ _ by omega)
  replace h := h.keep g1 n1 n2
  replace f1 := f1.trans g1
  clear hT g1 lt
  rw [h1]
  obtain ⟨c1x0, c1x1, c1x2, c1x3⟩ := row4 r8
  go_wp2_with fail
  refine (hs _ h).mono ?_
  rintro e v2 ⟨rfl, g2⟩
  clear c1x0 c1x1 c1x2 c1x3
  replace hT1 := hT1.keep g2 (fun h => h)
  replace r8 := r8.keep g2 (fun h => h)
  replace r13 := r13.keep g2 (fun h => h)
  replace h := h.keep g2 (fun h => h) (fun h => h)
  replace f1 := f1.trans (g2.mono (fun _ _ h => h.elim))
  clear g2
  clear h hs
  have l5 : Hid (bt < v2.heap.size ∧ w.heap.size + 1 < v2.heap.size) := ⟨hT1.lt, r13.lt⟩
  have r17 := row_alloc v2 #[.int .i64 x.ft.k, .int .i64 x.ft.s, .int .i64 x.ft.l, .bool x.ft.wk, .int .i64 x.ft.p] 51
  replace hT1 := hT1.alloc (.cells #[.int .i64 x.ft.k, .int .i64 x.ft.s, .int .i64 x.ft.l, .bool x.ft.wk, .int .i64 x.ft.p] 51)
  replace r8 := r8.alloc (.cells #[.int .i64 x.ft.k, .int .i64 x.ft.s, .int .i64 x.ft.l, .bool x.ft.wk, .int .i64 x.ft.p] 51)
  replace r13 := r13.alloc (.cells #[.int .i64 x.ft.k, .int .i64 x.ft.s, .int .i64 x.ft.l, .bool x.ft.wk, .int .i64 x.ft.p] 51)
  replace f1 := f1.alloc (.cells #[.int .i64 x.ft.k, .int .i64 x.ft.s, .int .i64 x.ft.l, .bool x.ft.wk, .int .i64 x.ft.p] 51)
  obtain ⟨c2x0, c2x1, c2x2, c2x3, c2x4⟩ := cells5 r17
  obtain ⟨c3x0, c3x1, c3x2, c3x3⟩ := row4 r8
  go_wp2_with fail
  refine (rfill_any _ _ _ _ _ hT1 hG hU ix ⟨vm, sd, page, x.fr, x.ri⟩).mono ?_
  rintro e v9 ⟨rfl, g9, hT9⟩
  clear c2x0 c2x1 c2x2 c2x3 c2x4 c3x0 c3x1 c3x2 c3x3
  have lt := lt2.out
  have l6 := l5.out
  replace r13 := r13.keep g9 (show _ ≠ _ by omega)
  replace r17 := r17.keep g9 (show _ ≠ _ by omega)
  replace f1 := f1.trans g9
  clear hT1 g9 lt l6 r8
  obtain ⟨c4x0, c4x1, c4x2, c4x3, c4x4⟩ := cells5 r17
  obtain ⟨c5x0, c5x1, c5x2, c5x3, c5x4⟩ := cells5 r13
  obtain ⟨z6x0, z6x1, z6x2, z6x3, z6x4⟩ := frozen5 r13
  go_wp2_with fail
  go_region
  go_wp2_with fail
  refine bodyPost_ret (ret_tf rfl rfl (r13.put5 _ _ _ _ _).drew rfl) rfl ?_
  exact ⟨rfl, (f1.put5 (Or.inl (by omega)) _ _ _ _ _).drew, hT9.keep ((Fr.refl (at' (w.heap.size + 1)) _).put5 (Or.inr rfl) _ _ _ _ _).drew (show _ ≠ _ by have := lt2.out; omega)⟩

set_option maxHeartbeats 4000000 in
theorem rreach_bno (w : World) (p bf nf : Nat) (bs : List UInt8) (bt : Nat) (T : Nat → Ln) (fo mi vm sd first second page want ix : Int) (h : IsRef w p bf nf bs) (hT : IsTref w bt T fo mi) (hG : GoodT T) (_hU : Uniq T) (hfo : 0 ≤ fo ∧ fo < 1000000) (hmi : 0 ≤ mi ∧ mi < 1000000) (n1 : p ≠ bt) (n2 : bf ≠ bt) (h1 : ansB (idx T vm sd page 8) = true) (h3 : bits .and .i64 (ansR T (idx T vm sd page 8)) want = 0) (x : Res) (hx : nested bs nf first second page want = x) (hk : x.ft.k ≠ 0) :
    Calls Try.prog 13 #[.pointer (some ⟨p, 0, none⟩), .pointer (some ⟨bt, 0, none⟩), .agg #[.int .i64 vm, .int .i64 sd, .int .i64 first, .int .i64 second], .int .i64 page, .int .i64 want, .int .i64 ix] w fun e w' => e = .returned (.tuple #[.int .i64 0, .agg #[.int .i64 x.ft.k, .int .i64 x.ft.s, .int .i64 x.ft.l, .bool x.ft.wk, .int .i64 x.ft.p]]) ∧ Fr (at' bt) w w' ∧ IsTref w' bt T (fo + moreF (idx T vm sd page 8)) (mi + moreM (idx T vm sd page 8)) := by
  have hs := fun w0 h0 => rnested_any w0 p bf nf bs vm sd first second page want h0
  rw [hx] at hs
  have t4 : (x.ft.k != 0) = true := by simp [hk]
  clear hx hk
  have f1 := Fr.refl (at' bt) w
  have lt := hT.lt
  have t3 : (bits .and .i64 (ansR T (idx T vm sd page 8)) want != 0) = false := by simp [h3]
  clear h3
  have r8 := row_alloc w #[.int .i64 vm, .int .i64 sd, .int .i64 first, .int .i64 second] 38
  replace hT := hT.alloc (.cells #[.int .i64 vm, .int .i64 sd, .int .i64 first, .int .i64 second] 38)
  replace h := h.alloc (.cells #[.int .i64 vm, .int .i64 sd, .int .i64 first, .int .i64 second] 38)
  replace f1 := f1.alloc (.cells #[.int .i64 vm, .int .i64 sd, .int .i64 first, .int .i64 second] 38)
  have r13 := row_alloc2 w (.cells #[.int .i64 vm, .int .i64 sd, .int .i64 first, .int .i64 second] 38) #[.int .i64 0, .int .i64 0, .int .i64 0, .bool false, .int .i64 0] 51
  replace hT := hT.alloc (.cells #[.int .i64 0, .int .i64 0, .int .i64 0, .bool false, .int .i64 0] 51)
  replace r8 := r8.alloc (.cells #[.int .i64 0, .int .i64 0, .int .i64 0, .bool false, .int .i64 0] 51)
  replace h := h.alloc (.cells #[.int .i64 0, .int .i64 0, .int .i64 0, .bool false, .int .i64 0] 51)
  replace f1 := f1.alloc (.cells #[.int .i64 0, .int .i64 0, .int .i64 0, .bool false, .int .i64 0] 51)
  obtain ⟨c0x0, c0x1, c0x2, c0x3⟩ := row4 r8
  have lt2 : Hid (bt < w.heap.size) := lt
  clear lt
  go_enter Try.func13, Try.ntmps13
  go_wp2_with fail
  refine (rfind_any _ _ _ _ _ _ _ _ hT hG hfo hmi).mono ?_
  rintro e v1 ⟨rfl, g1, hT1⟩
  clear c0x0 c0x1 c0x2 c0x3
  have lt := lt2.out
  replace r8 := r8.keep g1 (show _ ≠ _ by omega)
  replace r13 := r13.keep g1 (show _ ≠ _ by omega)
  replace h := h.keep g1 n1 n2
  replace f1 := f1.trans g1
  clear hT g1 lt
  rw [h1]
  obtain ⟨c1x0, c1x1, c1x2, c1x3⟩ := row4 r8
  go_wp2_with fail
  refine (hs _ h).mono ?_
  rintro e v2 ⟨rfl, g2⟩
  clear c1x0 c1x1 c1x2 c1x3
  replace hT1 := hT1.keep g2 (fun h => h)
  replace r8 := r8.keep g2 (fun h => h)
  replace r13 := r13.keep g2 (fun h => h)
  replace h := h.keep g2 (fun h => h) (fun h => h)
  replace f1 := f1.trans (g2.mono (fun _ _ h => h.elim))
  clear g2
  clear h hs
  have l5 : Hid (bt < v2.heap.size ∧ w.heap.size + 1 < v2.heap.size) := ⟨hT1.lt, r13.lt⟩
  have r17 := row_alloc v2 #[.int .i64 x.ft.k, .int .i64 x.ft.s, .int .i64 x.ft.l, .bool x.ft.wk, .int .i64 x.ft.p] 51
  replace hT1 := hT1.alloc (.cells #[.int .i64 x.ft.k, .int .i64 x.ft.s, .int .i64 x.ft.l, .bool x.ft.wk, .int .i64 x.ft.p] 51)
  replace r8 := r8.alloc (.cells #[.int .i64 x.ft.k, .int .i64 x.ft.s, .int .i64 x.ft.l, .bool x.ft.wk, .int .i64 x.ft.p] 51)
  replace r13 := r13.alloc (.cells #[.int .i64 x.ft.k, .int .i64 x.ft.s, .int .i64 x.ft.l, .bool x.ft.wk, .int .i64 x.ft.p] 51)
  replace f1 := f1.alloc (.cells #[.int .i64 x.ft.k, .int .i64 x.ft.s, .int .i64 x.ft.l, .bool x.ft.wk, .int .i64 x.ft.p] 51)
  obtain ⟨c2x0, c2x1, c2x2, c2x3, c2x4⟩ := cells5 r17
  obtain ⟨c3x0, c3x1, c3x2, c3x3, c3x4⟩ := cells5 r13
  obtain ⟨z4x0, z4x1, z4x2, z4x3, z4x4⟩ := frozen5 r13
  go_wp2_with fail
  go_region
  go_wp2_with fail
  refine bodyPost_ret (ret_tf rfl rfl (r13.put5 _ _ _ _ _).drew rfl) rfl ?_
  exact ⟨rfl, (f1.put5 (Or.inl (by omega)) _ _ _ _ _).drew, hT1.keep ((Fr.refl (at' (w.heap.size + 1)) _).put5 (Or.inr rfl) _ _ _ _ _).drew (show _ ≠ _ by have := lt2.out; omega)⟩

set_option maxHeartbeats 4000000 in
theorem rreach_bok (w : World) (p bf nf : Nat) (bs : List UInt8) (bt : Nat) (T : Nat → Ln) (fo mi vm sd first second page want ix : Int) (h : IsRef w p bf nf bs) (hT : IsTref w bt T fo mi) (hG : GoodT T) (hU : Uniq T) (hfo : 0 ≤ fo ∧ fo < 1000000) (hmi : 0 ≤ mi ∧ mi < 1000000) (n1 : p ≠ bt) (n2 : bf ≠ bt) (h1 : ansB (idx T vm sd page 8) = true) (h3 : bits .and .i64 (ansR T (idx T vm sd page 8)) want = 0) (x : Res) (hx : nested bs nf first second page want = x) (hk : x.ft.k = 0) :
    Calls Try.prog 13 #[.pointer (some ⟨p, 0, none⟩), .pointer (some ⟨bt, 0, none⟩), .agg #[.int .i64 vm, .int .i64 sd, .int .i64 first, .int .i64 second], .int .i64 page, .int .i64 want, .int .i64 ix] w fun e w' => e = .returned (.tuple #[.int .i64 x.fr, .agg #[.int .i64 x.ft.k, .int .i64 x.ft.s, .int .i64 x.ft.l, .bool x.ft.wk, .int .i64 x.ft.p]]) ∧ Fr (at' bt) w w' ∧ IsTref w' bt (fillT T ix ⟨vm, sd, page, x.fr, x.ri⟩) (fo + moreF (idx T vm sd page 8)) (mi + moreM (idx T vm sd page 8)) := by
  have hs := fun w0 h0 => rnested_any w0 p bf nf bs vm sd first second page want h0
  rw [hx] at hs
  have t4 : (x.ft.k != 0) = false := by simp [hk]
  clear hx hk
  have f1 := Fr.refl (at' bt) w
  have lt := hT.lt
  have t3 : (bits .and .i64 (ansR T (idx T vm sd page 8)) want != 0) = false := by simp [h3]
  clear h3
  have r8 := row_alloc w #[.int .i64 vm, .int .i64 sd, .int .i64 first, .int .i64 second] 38
  replace hT := hT.alloc (.cells #[.int .i64 vm, .int .i64 sd, .int .i64 first, .int .i64 second] 38)
  replace h := h.alloc (.cells #[.int .i64 vm, .int .i64 sd, .int .i64 first, .int .i64 second] 38)
  replace f1 := f1.alloc (.cells #[.int .i64 vm, .int .i64 sd, .int .i64 first, .int .i64 second] 38)
  have r13 := row_alloc2 w (.cells #[.int .i64 vm, .int .i64 sd, .int .i64 first, .int .i64 second] 38) #[.int .i64 0, .int .i64 0, .int .i64 0, .bool false, .int .i64 0] 51
  replace hT := hT.alloc (.cells #[.int .i64 0, .int .i64 0, .int .i64 0, .bool false, .int .i64 0] 51)
  replace r8 := r8.alloc (.cells #[.int .i64 0, .int .i64 0, .int .i64 0, .bool false, .int .i64 0] 51)
  replace h := h.alloc (.cells #[.int .i64 0, .int .i64 0, .int .i64 0, .bool false, .int .i64 0] 51)
  replace f1 := f1.alloc (.cells #[.int .i64 0, .int .i64 0, .int .i64 0, .bool false, .int .i64 0] 51)
  obtain ⟨c0x0, c0x1, c0x2, c0x3⟩ := row4 r8
  have lt2 : Hid (bt < w.heap.size) := lt
  clear lt
  go_enter Try.func13, Try.ntmps13
  go_wp2_with fail
  refine (rfind_any _ _ _ _ _ _ _ _ hT hG hfo hmi).mono ?_
  rintro e v1 ⟨rfl, g1, hT1⟩
  clear c0x0 c0x1 c0x2 c0x3
  have lt := lt2.out
  replace r8 := r8.keep g1 (show _ ≠ _ by omega)
  replace r13 := r13.keep g1 (show _ ≠ _ by omega)
  replace h := h.keep g1 n1 n2
  replace f1 := f1.trans g1
  clear hT g1 lt
  rw [h1]
  obtain ⟨c1x0, c1x1, c1x2, c1x3⟩ := row4 r8
  go_wp2_with fail
  refine (hs _ h).mono ?_
  rintro e v2 ⟨rfl, g2⟩
  clear c1x0 c1x1 c1x2 c1x3
  replace hT1 := hT1.keep g2 (fun h => h)
  replace r8 := r8.keep g2 (fun h => h)
  replace r13 := r13.keep g2 (fun h => h)
  replace h := h.keep g2 (fun h => h) (fun h => h)
  replace f1 := f1.trans (g2.mono (fun _ _ h => h.elim))
  clear g2
  clear h hs
  have l5 : Hid (bt < v2.heap.size ∧ w.heap.size + 1 < v2.heap.size) := ⟨hT1.lt, r13.lt⟩
  have r17 := row_alloc v2 #[.int .i64 x.ft.k, .int .i64 x.ft.s, .int .i64 x.ft.l, .bool x.ft.wk, .int .i64 x.ft.p] 51
  replace hT1 := hT1.alloc (.cells #[.int .i64 x.ft.k, .int .i64 x.ft.s, .int .i64 x.ft.l, .bool x.ft.wk, .int .i64 x.ft.p] 51)
  replace r8 := r8.alloc (.cells #[.int .i64 x.ft.k, .int .i64 x.ft.s, .int .i64 x.ft.l, .bool x.ft.wk, .int .i64 x.ft.p] 51)
  replace r13 := r13.alloc (.cells #[.int .i64 x.ft.k, .int .i64 x.ft.s, .int .i64 x.ft.l, .bool x.ft.wk, .int .i64 x.ft.p] 51)
  replace f1 := f1.alloc (.cells #[.int .i64 x.ft.k, .int .i64 x.ft.s, .int .i64 x.ft.l, .bool x.ft.wk, .int .i64 x.ft.p] 51)
  obtain ⟨c2x0, c2x1, c2x2, c2x3, c2x4⟩ := cells5 r17
  obtain ⟨c3x0, c3x1, c3x2, c3x3⟩ := row4 r8
  go_wp2_with fail
  refine (rfill_any _ _ _ _ _ hT1 hG hU ix ⟨vm, sd, page, x.fr, x.ri⟩).mono ?_
  rintro e v9 ⟨rfl, g9, hT9⟩
  clear c2x0 c2x1 c2x2 c2x3 c2x4 c3x0 c3x1 c3x2 c3x3
  have lt := lt2.out
  have l6 := l5.out
  replace r13 := r13.keep g9 (show _ ≠ _ by omega)
  replace r17 := r17.keep g9 (show _ ≠ _ by omega)
  replace f1 := f1.trans g9
  clear hT1 g9 lt l6 r8
  obtain ⟨c4x0, c4x1, c4x2, c4x3, c4x4⟩ := cells5 r17
  obtain ⟨c5x0, c5x1, c5x2, c5x3, c5x4⟩ := cells5 r13
  obtain ⟨z6x0, z6x1, z6x2, z6x3, z6x4⟩ := frozen5 r13
  go_wp2_with fail
  go_region
  go_wp2_with fail
  refine bodyPost_ret (ret_tf rfl rfl (r13.put5 _ _ _ _ _).drew rfl) rfl ?_
  exact ⟨rfl, (f1.put5 (Or.inl (by omega)) _ _ _ _ _).drew, hT9.keep ((Fr.refl (at' (w.heap.size + 1)) _).put5 (Or.inr rfl) _ _ _ _ _).drew (show _ ≠ _ by have := lt2.out; omega)⟩

set_option maxHeartbeats 4000000 in
theorem rreach_cno (w : World) (p bf nf : Nat) (bs : List UInt8) (bt : Nat) (T : Nat → Ln) (fo mi vm sd first second page want ix : Int) (h : IsRef w p bf nf bs) (hT : IsTref w bt T fo mi) (hG : GoodT T) (_hU : Uniq T) (hfo : 0 ≤ fo ∧ fo < 1000000) (hmi : 0 ≤ mi ∧ mi < 1000000) (n1 : p ≠ bt) (n2 : bf ≠ bt) (h1 : ansB (idx T vm sd page 8) = true) (h3 : bits .and .i64 (ansR T (idx T vm sd page 8)) want ≠ 0) (h2 : isR want = false) (x : Res) (hx : nested bs nf first second page want = x) (hk : x.ft.k ≠ 0) :
    Calls Try.prog 13 #[.pointer (some ⟨p, 0, none⟩), .pointer (some ⟨bt, 0, none⟩), .agg #[.int .i64 vm, .int .i64 sd, .int .i64 first, .int .i64 second], .int .i64 page, .int .i64 want, .int .i64 ix] w fun e w' => e = .returned (.tuple #[.int .i64 0, .agg #[.int .i64 x.ft.k, .int .i64 x.ft.s, .int .i64 x.ft.l, .bool x.ft.wk, .int .i64 x.ft.p]]) ∧ Fr (at' bt) w w' ∧ IsTref w' bt T (fo + moreF (idx T vm sd page 8)) (mi + moreM (idx T vm sd page 8)) := by
  have hs := fun w0 h0 => rnested_any w0 p bf nf bs vm sd first second page want h0
  rw [hx] at hs
  have t4 : (x.ft.k != 0) = true := by simp [hk]
  clear hx hk
  have f1 := Fr.refl (at' bt) w
  have lt := hT.lt
  have t3 : (bits .and .i64 (ansR T (idx T vm sd page 8)) want != 0) = true := by simp [h3]
  have q1 : (want == 1) = false := by simp [isR] at h2; simp [h2]
  have q2 : (want == 2) = false := by simp [isR] at h2; simp [h2]
  have q4 : (want == 4) = false := by simp [isR] at h2; simp [h2]
  clear h3 h2
  have r8 := row_alloc w #[.int .i64 vm, .int .i64 sd, .int .i64 first, .int .i64 second] 38
  replace hT := hT.alloc (.cells #[.int .i64 vm, .int .i64 sd, .int .i64 first, .int .i64 second] 38)
  replace h := h.alloc (.cells #[.int .i64 vm, .int .i64 sd, .int .i64 first, .int .i64 second] 38)
  replace f1 := f1.alloc (.cells #[.int .i64 vm, .int .i64 sd, .int .i64 first, .int .i64 second] 38)
  have r13 := row_alloc2 w (.cells #[.int .i64 vm, .int .i64 sd, .int .i64 first, .int .i64 second] 38) #[.int .i64 0, .int .i64 0, .int .i64 0, .bool false, .int .i64 0] 51
  replace hT := hT.alloc (.cells #[.int .i64 0, .int .i64 0, .int .i64 0, .bool false, .int .i64 0] 51)
  replace r8 := r8.alloc (.cells #[.int .i64 0, .int .i64 0, .int .i64 0, .bool false, .int .i64 0] 51)
  replace h := h.alloc (.cells #[.int .i64 0, .int .i64 0, .int .i64 0, .bool false, .int .i64 0] 51)
  replace f1 := f1.alloc (.cells #[.int .i64 0, .int .i64 0, .int .i64 0, .bool false, .int .i64 0] 51)
  obtain ⟨c0x0, c0x1, c0x2, c0x3⟩ := row4 r8
  have lt2 : Hid (bt < w.heap.size) := lt
  clear lt
  go_enter Try.func13, Try.ntmps13
  go_wp2_with fail
  refine (rfind_any _ _ _ _ _ _ _ _ hT hG hfo hmi).mono ?_
  rintro e v1 ⟨rfl, g1, hT1⟩
  clear c0x0 c0x1 c0x2 c0x3
  have lt := lt2.out
  replace r8 := r8.keep g1 (show _ ≠ _ by omega)
  replace r13 := r13.keep g1 (show _ ≠ _ by omega)
  replace h := h.keep g1 n1 n2
  replace f1 := f1.trans g1
  clear hT g1 lt
  rw [h1]
  obtain ⟨c1x0, c1x1, c1x2, c1x3⟩ := row4 r8
  go_wp2_with fail
  refine (hs _ h).mono ?_
  rintro e v2 ⟨rfl, g2⟩
  clear c1x0 c1x1 c1x2 c1x3
  replace hT1 := hT1.keep g2 (fun h => h)
  replace r8 := r8.keep g2 (fun h => h)
  replace r13 := r13.keep g2 (fun h => h)
  replace h := h.keep g2 (fun h => h) (fun h => h)
  replace f1 := f1.trans (g2.mono (fun _ _ h => h.elim))
  clear g2
  clear h hs
  have l5 : Hid (bt < v2.heap.size ∧ w.heap.size + 1 < v2.heap.size) := ⟨hT1.lt, r13.lt⟩
  have r17 := row_alloc v2 #[.int .i64 x.ft.k, .int .i64 x.ft.s, .int .i64 x.ft.l, .bool x.ft.wk, .int .i64 x.ft.p] 51
  replace hT1 := hT1.alloc (.cells #[.int .i64 x.ft.k, .int .i64 x.ft.s, .int .i64 x.ft.l, .bool x.ft.wk, .int .i64 x.ft.p] 51)
  replace r8 := r8.alloc (.cells #[.int .i64 x.ft.k, .int .i64 x.ft.s, .int .i64 x.ft.l, .bool x.ft.wk, .int .i64 x.ft.p] 51)
  replace r13 := r13.alloc (.cells #[.int .i64 x.ft.k, .int .i64 x.ft.s, .int .i64 x.ft.l, .bool x.ft.wk, .int .i64 x.ft.p] 51)
  replace f1 := f1.alloc (.cells #[.int .i64 x.ft.k, .int .i64 x.ft.s, .int .i64 x.ft.l, .bool x.ft.wk, .int .i64 x.ft.p] 51)
  obtain ⟨c2x0, c2x1, c2x2, c2x3, c2x4⟩ := cells5 r17
  obtain ⟨c3x0, c3x1, c3x2, c3x3, c3x4⟩ := cells5 r13
  obtain ⟨z4x0, z4x1, z4x2, z4x3, z4x4⟩ := frozen5 r13
  go_wp2_with fail
  go_region
  go_wp2_with fail
  refine bodyPost_ret (ret_tf rfl rfl (r13.put5 _ _ _ _ _).drew rfl) rfl ?_
  exact ⟨rfl, (f1.put5 (Or.inl (by omega)) _ _ _ _ _).drew, hT1.keep ((Fr.refl (at' (w.heap.size + 1)) _).put5 (Or.inr rfl) _ _ _ _ _).drew (show _ ≠ _ by have := lt2.out; omega)⟩

set_option maxHeartbeats 4000000 in
theorem rreach_cok (w : World) (p bf nf : Nat) (bs : List UInt8) (bt : Nat) (T : Nat → Ln) (fo mi vm sd first second page want ix : Int) (h : IsRef w p bf nf bs) (hT : IsTref w bt T fo mi) (hG : GoodT T) (hU : Uniq T) (hfo : 0 ≤ fo ∧ fo < 1000000) (hmi : 0 ≤ mi ∧ mi < 1000000) (n1 : p ≠ bt) (n2 : bf ≠ bt) (h1 : ansB (idx T vm sd page 8) = true) (h3 : bits .and .i64 (ansR T (idx T vm sd page 8)) want ≠ 0) (h2 : isR want = false) (x : Res) (hx : nested bs nf first second page want = x) (hk : x.ft.k = 0) :
    Calls Try.prog 13 #[.pointer (some ⟨p, 0, none⟩), .pointer (some ⟨bt, 0, none⟩), .agg #[.int .i64 vm, .int .i64 sd, .int .i64 first, .int .i64 second], .int .i64 page, .int .i64 want, .int .i64 ix] w fun e w' => e = .returned (.tuple #[.int .i64 x.fr, .agg #[.int .i64 x.ft.k, .int .i64 x.ft.s, .int .i64 x.ft.l, .bool x.ft.wk, .int .i64 x.ft.p]]) ∧ Fr (at' bt) w w' ∧ IsTref w' bt (fillT T ix ⟨vm, sd, page, x.fr, x.ri⟩) (fo + moreF (idx T vm sd page 8)) (mi + moreM (idx T vm sd page 8)) := by
  have hs := fun w0 h0 => rnested_any w0 p bf nf bs vm sd first second page want h0
  rw [hx] at hs
  have t4 : (x.ft.k != 0) = false := by simp [hk]
  clear hx hk
  have f1 := Fr.refl (at' bt) w
  have lt := hT.lt
  have t3 : (bits .and .i64 (ansR T (idx T vm sd page 8)) want != 0) = true := by simp [h3]
  have q1 : (want == 1) = false := by simp [isR] at h2; simp [h2]
  have q2 : (want == 2) = false := by simp [isR] at h2; simp [h2]
  have q4 : (want == 4) = false := by simp [isR] at h2; simp [h2]
  clear h3 h2
  have r8 := row_alloc w #[.int .i64 vm, .int .i64 sd, .int .i64 first, .int .i64 second] 38
  replace hT := hT.alloc (.cells #[.int .i64 vm, .int .i64 sd, .int .i64 first, .int .i64 second] 38)
  replace h := h.alloc (.cells #[.int .i64 vm, .int .i64 sd, .int .i64 first, .int .i64 second] 38)
  replace f1 := f1.alloc (.cells #[.int .i64 vm, .int .i64 sd, .int .i64 first, .int .i64 second] 38)
  have r13 := row_alloc2 w (.cells #[.int .i64 vm, .int .i64 sd, .int .i64 first, .int .i64 second] 38) #[.int .i64 0, .int .i64 0, .int .i64 0, .bool false, .int .i64 0] 51
  replace hT := hT.alloc (.cells #[.int .i64 0, .int .i64 0, .int .i64 0, .bool false, .int .i64 0] 51)
  replace r8 := r8.alloc (.cells #[.int .i64 0, .int .i64 0, .int .i64 0, .bool false, .int .i64 0] 51)
  replace h := h.alloc (.cells #[.int .i64 0, .int .i64 0, .int .i64 0, .bool false, .int .i64 0] 51)
  replace f1 := f1.alloc (.cells #[.int .i64 0, .int .i64 0, .int .i64 0, .bool false, .int .i64 0] 51)
  obtain ⟨c0x0, c0x1, c0x2, c0x3⟩ := row4 r8
  have lt2 : Hid (bt < w.heap.size) := lt
  clear lt
  go_enter Try.func13, Try.ntmps13
  go_wp2_with fail
  refine (rfind_any _ _ _ _ _ _ _ _ hT hG hfo hmi).mono ?_
  rintro e v1 ⟨rfl, g1, hT1⟩
  clear c0x0 c0x1 c0x2 c0x3
  have lt := lt2.out
  replace r8 := r8.keep g1 (show _ ≠ _ by omega)
  replace r13 := r13.keep g1 (show _ ≠ _ by omega)
  replace h := h.keep g1 n1 n2
  replace f1 := f1.trans g1
  clear hT g1 lt
  rw [h1]
  obtain ⟨c1x0, c1x1, c1x2, c1x3⟩ := row4 r8
  go_wp2_with fail
  refine (hs _ h).mono ?_
  rintro e v2 ⟨rfl, g2⟩
  clear c1x0 c1x1 c1x2 c1x3
  replace hT1 := hT1.keep g2 (fun h => h)
  replace r8 := r8.keep g2 (fun h => h)
  replace r13 := r13.keep g2 (fun h => h)
  replace h := h.keep g2 (fun h => h) (fun h => h)
  replace f1 := f1.trans (g2.mono (fun _ _ h => h.elim))
  clear g2
  clear h hs
  have l5 : Hid (bt < v2.heap.size ∧ w.heap.size + 1 < v2.heap.size) := ⟨hT1.lt, r13.lt⟩
  have r17 := row_alloc v2 #[.int .i64 x.ft.k, .int .i64 x.ft.s, .int .i64 x.ft.l, .bool x.ft.wk, .int .i64 x.ft.p] 51
  replace hT1 := hT1.alloc (.cells #[.int .i64 x.ft.k, .int .i64 x.ft.s, .int .i64 x.ft.l, .bool x.ft.wk, .int .i64 x.ft.p] 51)
  replace r8 := r8.alloc (.cells #[.int .i64 x.ft.k, .int .i64 x.ft.s, .int .i64 x.ft.l, .bool x.ft.wk, .int .i64 x.ft.p] 51)
  replace r13 := r13.alloc (.cells #[.int .i64 x.ft.k, .int .i64 x.ft.s, .int .i64 x.ft.l, .bool x.ft.wk, .int .i64 x.ft.p] 51)
  replace f1 := f1.alloc (.cells #[.int .i64 x.ft.k, .int .i64 x.ft.s, .int .i64 x.ft.l, .bool x.ft.wk, .int .i64 x.ft.p] 51)
  obtain ⟨c2x0, c2x1, c2x2, c2x3, c2x4⟩ := cells5 r17
  obtain ⟨c3x0, c3x1, c3x2, c3x3⟩ := row4 r8
  go_wp2_with fail
  refine (rfill_any _ _ _ _ _ hT1 hG hU ix ⟨vm, sd, page, x.fr, x.ri⟩).mono ?_
  rintro e v9 ⟨rfl, g9, hT9⟩
  clear c2x0 c2x1 c2x2 c2x3 c2x4 c3x0 c3x1 c3x2 c3x3
  have lt := lt2.out
  have l6 := l5.out
  replace r13 := r13.keep g9 (show _ ≠ _ by omega)
  replace r17 := r17.keep g9 (show _ ≠ _ by omega)
  replace f1 := f1.trans g9
  clear hT1 g9 lt l6 r8
  obtain ⟨c4x0, c4x1, c4x2, c4x3, c4x4⟩ := cells5 r17
  obtain ⟨c5x0, c5x1, c5x2, c5x3, c5x4⟩ := cells5 r13
  obtain ⟨z6x0, z6x1, z6x2, z6x3, z6x4⟩ := frozen5 r13
  go_wp2_with fail
  go_region
  go_wp2_with fail
  refine bodyPost_ret (ret_tf rfl rfl (r13.put5 _ _ _ _ _).drew rfl) rfl ?_
  exact ⟨rfl, (f1.put5 (Or.inl (by omega)) _ _ _ _ _).drew, hT9.keep ((Fr.refl (at' (w.heap.size + 1)) _).put5 (Or.inr rfl) _ _ _ _ _).drew (show _ ≠ _ by have := lt2.out; omega)⟩

theorem rreach_any (w : World) (p bf nf : Nat) (bs : List UInt8) (bt : Nat) (T : Nat → Ln) (fo mi vm sd first second page want ix : Int) (h : IsRef w p bf nf bs) (hT : IsTref w bt T fo mi) (hG : GoodT T) (hU : Uniq T) (hfo : 0 ≤ fo ∧ fo < 1000000) (hmi : 0 ≤ mi ∧ mi < 1000000) (n1 : p ≠ bt) (n2 : bf ≠ bt) :
    Calls Try.prog 13 #[.pointer (some ⟨p, 0, none⟩), .pointer (some ⟨bt, 0, none⟩), .agg #[.int .i64 vm, .int .i64 sd, .int .i64 first, .int .i64 second], .int .i64 page, .int .i64 want, .int .i64 ix] w fun e w' => e = .returned (.tuple #[.int .i64 (reachF bs nf T vm sd first second page want), .agg #[.int .i64 (reachX bs nf T vm sd first second page want).k, .int .i64 (reachX bs nf T vm sd first second page want).s, .int .i64 (reachX bs nf T vm sd first second page want).l, .bool (reachX bs nf T vm sd first second page want).wk, .int .i64 (reachX bs nf T vm sd first second page want).p]]) ∧ Fr (at' bt) w w' ∧ IsTref w' bt (reachT bs nf T vm sd first second page want ix) (fo + moreF (idx T vm sd page 8)) (mi + moreM (idx T vm sd page 8)) := by
  have miss : hitR T vm sd page want = false → (reachF bs nf T vm sd first second page want = (nested bs nf first second page want).fr ∧ reachX bs nf T vm sd first second page want = (nested bs nf first second page want).ft ∧
      reachT bs nf T vm sd first second page want ix = if (nested bs nf first second page want).ft.k = 0 then fillT T ix ⟨vm, sd, page, (nested bs nf first second page want).fr, (nested bs nf first second page want).ri⟩ else T) := fun hh => by
    unfold reachF reachX reachT
    rw [if_neg (by simp [hh]), if_neg (by simp [hh]), if_neg (by simp [hh])]
    exact ⟨rfl, rfl, rfl⟩
  have hz := nested_zero bs nf first second page want
  cases h1 : ansB (idx T vm sd page 8) with
  | false =>
    obtain ⟨e1, e2, e3⟩ := miss (by simp [hitR, h1])
    rw [e1, e2, e3]
    by_cases hk : (nested bs nf first second page want).ft.k = 0
    · rw [if_pos hk]; exact rreach_aok w p bf nf bs bt T fo mi vm sd first second page want ix h hT hG hU hfo hmi n1 n2 h1 _ rfl hk
    · rw [if_neg hk, (hz hk).1]; exact rreach_ano w p bf nf bs bt T fo mi vm sd first second page want ix h hT hG hU hfo hmi n1 n2 h1 _ rfl hk
  | true =>
    by_cases h3 : bits .and .i64 (ansR T (idx T vm sd page 8)) want = 0
    · obtain ⟨e1, e2, e3⟩ := miss (by simp [hitR, h3])
      rw [e1, e2, e3]
      by_cases hk : (nested bs nf first second page want).ft.k = 0
      · rw [if_pos hk]; exact rreach_bok w p bf nf bs bt T fo mi vm sd first second page want ix h hT hG hU hfo hmi n1 n2 h1 h3 _ rfl hk
      · rw [if_neg hk, (hz hk).1]; exact rreach_bno w p bf nf bs bt T fo mi vm sd first second page want ix h hT hG hU hfo hmi n1 n2 h1 h3 _ rfl hk
    · cases h2 : isR want with
      | false =>
        obtain ⟨e1, e2, e3⟩ := miss (by simp [hitR, h2])
        rw [e1, e2, e3]
        by_cases hk : (nested bs nf first second page want).ft.k = 0
        · rw [if_pos hk]; exact rreach_cok w p bf nf bs bt T fo mi vm sd first second page want ix h hT hG hU hfo hmi n1 n2 h1 h3 h2 _ rfl hk
        · rw [if_neg hk, (hz hk).1]; exact rreach_cno w p bf nf bs bt T fo mi vm sd first second page want ix h hT hG hU hfo hmi n1 n2 h1 h3 h2 _ rfl hk
      | true =>
        have hh : hitR T vm sd page want = true := by simp [hitR, h1, h2, h3]
        have e1 : reachF bs nf T vm sd first second page want = ansF T (idx T vm sd page 8) := by unfold reachF; rw [if_pos hh]
        have e2 : reachX bs nf T vm sd first second page want = f0 := by unfold reachX; rw [if_pos hh]
        have e3 : reachT bs nf T vm sd first second page want ix = T := by unfold reachT; rw [if_pos hh]
        rw [e1, e2, e3]
        clear e1 e2 e3 hh miss hz
        rcases isR_iff.1 h2 with rfl | rfl | rfl
        · exact rreach_hit1 w p bf nf bs bt T fo mi vm sd first second page ix h hT hG hU hfo hmi n1 n2 h1 h3
        · exact rreach_hit2 w p bf nf bs bt T fo mi vm sd first second page ix h hT hG hU hfo hmi n1 n2 h1 h3
        · exact rreach_hit4 w p bf nf bs bt T fo mi vm sd first second page ix h hT hG hU hfo hmi n1 n2 h1 h3

end Go.Proofs.Ytknpjfbjalboeaa
