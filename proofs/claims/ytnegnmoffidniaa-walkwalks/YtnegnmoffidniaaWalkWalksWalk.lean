/-
  The law WalkWalks walked: whatever came in, it answers true and turns nothing old. No statement is proved here.
-/
import Derived.Test.YtnegnmoffidniaaWalkAwake
namespace Go.Proofs.Ytnegnmoffidniaa
open Go.RowKit

set_option maxHeartbeats 8000000 in
set_option maxRecDepth 100000 in
theorem walks_any (w : World) (a0 : Option Addr) (len cap : Nat) (P : Nat → Pt) (hl : len ≤ 9223372036854775807) (hP : Puts w a0 len P) (vm sd first second page want : Int) :
    Calls Try.prog 3 #[.slice a0 len cap, .agg #[.int .i64 vm, .int .i64 sd, .int .i64 first, .int .i64 second], .int .i64 page, .int .i64 want] w fun e w' => e = .returned (.bool true) ∧ Below w.heap.size w w' := by
  have hne := neq_fault
  have f1 := Fr.refl none' w
  have r5 := row_alloc w #[.int .i64 vm, .int .i64 sd, .int .i64 first, .int .i64 second] 24
  replace hP := hP.keep ((Fr.refl none' _).alloc (.cells #[.int .i64 vm, .int .i64 sd, .int .i64 first, .int .i64 second] 24))
  replace f1 := f1.alloc (.cells #[.int .i64 vm, .int .i64 sd, .int .i64 first, .int .i64 second] 24)
  go_enter Try.func3, Try.ntmps3
  go_wp2_with fail
  refine (awake_any _).mono ?_
  rintro e v1 ⟨rfl, g1⟩
  replace hP := hP.keep g1
  replace r5 := r5.keep g1 (fun h => h)
  replace f1 := f1.trans g1
  clear g1
  go_wp2_with fail
  refine (laid_any _ _ _ _ P hl hP).mono ?_
  rintro e vl ⟨pm, bm, pr, br, rfl, gl, TW⟩
  obtain ⟨bs, hbs⟩ : ∃ bs, laidB P (min len 200) = bs := ⟨_, rfl⟩
  rw [hbs] at TW
  have hTW := TW.lo
  clear hbs hP hl
  replace r5 := r5.keep gl (fun h => h)
  replace f1 := f1.trans gl
  clear gl
  obtain ⟨x, hx⟩ : ∃ x, single bs 16 second page = x := ⟨_, rfl⟩
  obtain ⟨y, hy⟩ : ∃ y, nested bs 16 first second page want = y := ⟨_, rfl⟩
  have hs1 := fun w0 h0 => single_any w0 pm bm 16 bs second page h0
  have hs2 := fun w0 h0 => rsingle_any w0 pr br 16 bs second page h0
  have hs3 := fun w0 h0 => nested_any w0 pm bm 16 bs vm sd first second page want h0
  have hs4 := fun w0 h0 => rnested_any w0 pr br 16 bs vm sd first second page want h0
  rw [hx] at hs1 hs2
  rw [hy] at hs3 hs4
  clear hx hy
  obtain ⟨c0x0, c0x1, c0x2, c0x3⟩ := row4 r5
  go_wp2_with fail
  refine (hs1 _ TW.ram).mono ?_
  rintro e v2 ⟨rfl, g2⟩
  clear c0x0 c0x1 c0x2 c0x3
  replace TW := TW.keep0 g2
  replace r5 := r5.keep g2 (fun h => h)
  replace f1 := f1.trans g2
  clear g2
  have r14 := row_alloc v2 #[.int .i64 x.ft.k, .int .i64 x.ft.s, .int .i64 x.ft.l, .bool x.ft.wk, .int .i64 x.ft.p] 31
  replace TW := TW.keep0 ((Fr.refl none' _).alloc (.cells #[.int .i64 x.ft.k, .int .i64 x.ft.s, .int .i64 x.ft.l, .bool x.ft.wk, .int .i64 x.ft.p] 31))
  replace r5 := r5.alloc (.cells #[.int .i64 x.ft.k, .int .i64 x.ft.s, .int .i64 x.ft.l, .bool x.ft.wk, .int .i64 x.ft.p] 31)
  replace f1 := f1.alloc (.cells #[.int .i64 x.ft.k, .int .i64 x.ft.s, .int .i64 x.ft.l, .bool x.ft.wk, .int .i64 x.ft.p] 31)
  obtain ⟨c1x0, c1x1, c1x2, c1x3⟩ := row4 r5
  go_wp2_with fail
  refine (hs2 _ TW.ref).mono ?_
  rintro e v3 ⟨rfl, g3⟩
  clear c1x0 c1x1 c1x2 c1x3
  replace TW := TW.keep0 g3
  replace r5 := r5.keep g3 (fun h => h)
  replace r14 := r14.keep g3 (fun h => h)
  replace f1 := f1.trans g3
  clear g3
  have r17 := row_alloc v3 #[.int .i64 x.ft.k, .int .i64 x.ft.s, .int .i64 x.ft.l, .bool x.ft.wk, .int .i64 x.ft.p] 31
  replace TW := TW.keep0 ((Fr.refl none' _).alloc (.cells #[.int .i64 x.ft.k, .int .i64 x.ft.s, .int .i64 x.ft.l, .bool x.ft.wk, .int .i64 x.ft.p] 31))
  replace r5 := r5.alloc (.cells #[.int .i64 x.ft.k, .int .i64 x.ft.s, .int .i64 x.ft.l, .bool x.ft.wk, .int .i64 x.ft.p] 31)
  replace r14 := r14.alloc (.cells #[.int .i64 x.ft.k, .int .i64 x.ft.s, .int .i64 x.ft.l, .bool x.ft.wk, .int .i64 x.ft.p] 31)
  replace f1 := f1.alloc (.cells #[.int .i64 x.ft.k, .int .i64 x.ft.s, .int .i64 x.ft.l, .bool x.ft.wk, .int .i64 x.ft.p] 31)
  obtain ⟨c2x0, c2x1, c2x2, c2x3⟩ := row4 r5
  go_wp2_with fail
  refine (hs3 _ TW.ram).mono ?_
  rintro e v4 ⟨rfl, g4⟩
  clear c2x0 c2x1 c2x2 c2x3
  replace TW := TW.keep0 g4
  replace r5 := r5.keep g4 (fun h => h)
  replace r14 := r14.keep g4 (fun h => h)
  replace r17 := r17.keep g4 (fun h => h)
  replace f1 := f1.trans g4
  clear g4
  have r20 := row_alloc v4 #[.int .i64 y.ft.k, .int .i64 y.ft.s, .int .i64 y.ft.l, .bool y.ft.wk, .int .i64 y.ft.p] 31
  replace TW := TW.keep0 ((Fr.refl none' _).alloc (.cells #[.int .i64 y.ft.k, .int .i64 y.ft.s, .int .i64 y.ft.l, .bool y.ft.wk, .int .i64 y.ft.p] 31))
  replace r5 := r5.alloc (.cells #[.int .i64 y.ft.k, .int .i64 y.ft.s, .int .i64 y.ft.l, .bool y.ft.wk, .int .i64 y.ft.p] 31)
  replace r14 := r14.alloc (.cells #[.int .i64 y.ft.k, .int .i64 y.ft.s, .int .i64 y.ft.l, .bool y.ft.wk, .int .i64 y.ft.p] 31)
  replace r17 := r17.alloc (.cells #[.int .i64 y.ft.k, .int .i64 y.ft.s, .int .i64 y.ft.l, .bool y.ft.wk, .int .i64 y.ft.p] 31)
  replace f1 := f1.alloc (.cells #[.int .i64 y.ft.k, .int .i64 y.ft.s, .int .i64 y.ft.l, .bool y.ft.wk, .int .i64 y.ft.p] 31)
  obtain ⟨c3x0, c3x1, c3x2, c3x3⟩ := row4 r5
  go_wp2_with fail
  refine (hs4 _ TW.ref).mono ?_
  rintro e v5 ⟨rfl, g5⟩
  clear c3x0 c3x1 c3x2 c3x3
  replace TW := TW.keep0 g5
  replace r5 := r5.keep g5 (fun h => h)
  replace r14 := r14.keep g5 (fun h => h)
  replace r17 := r17.keep g5 (fun h => h)
  replace r20 := r20.keep g5 (fun h => h)
  replace f1 := f1.trans g5
  clear g5
  have r23 := row_alloc v5 #[.int .i64 y.ft.k, .int .i64 y.ft.s, .int .i64 y.ft.l, .bool y.ft.wk, .int .i64 y.ft.p] 31
  replace TW := TW.keep0 ((Fr.refl none' _).alloc (.cells #[.int .i64 y.ft.k, .int .i64 y.ft.s, .int .i64 y.ft.l, .bool y.ft.wk, .int .i64 y.ft.p] 31))
  replace r5 := r5.alloc (.cells #[.int .i64 y.ft.k, .int .i64 y.ft.s, .int .i64 y.ft.l, .bool y.ft.wk, .int .i64 y.ft.p] 31)
  replace r14 := r14.alloc (.cells #[.int .i64 y.ft.k, .int .i64 y.ft.s, .int .i64 y.ft.l, .bool y.ft.wk, .int .i64 y.ft.p] 31)
  replace r17 := r17.alloc (.cells #[.int .i64 y.ft.k, .int .i64 y.ft.s, .int .i64 y.ft.l, .bool y.ft.wk, .int .i64 y.ft.p] 31)
  replace r20 := r20.alloc (.cells #[.int .i64 y.ft.k, .int .i64 y.ft.s, .int .i64 y.ft.l, .bool y.ft.wk, .int .i64 y.ft.p] 31)
  replace f1 := f1.alloc (.cells #[.int .i64 y.ft.k, .int .i64 y.ft.s, .int .i64 y.ft.l, .bool y.ft.wk, .int .i64 y.ft.p] 31)
  obtain ⟨c4x0, c4x1, c4x2, c4x3⟩ := row4 r5
  obtain ⟨c5x0, c5x1, c5x2, c5x3, c5x4⟩ := cells5 r14
  obtain ⟨c6x0, c6x1, c6x2, c6x3, c6x4⟩ := cells5 r17
  obtain ⟨c7x0, c7x1, c7x2, c7x3, c7x4⟩ := cells5 r20
  obtain ⟨c8x0, c8x1, c8x2, c8x3, c8x4⟩ := cells5 r23
  have t1 : (x.fr != x.fr) = false := by simp
  have t2 : (x.ri != x.ri) = false := by simp
  have t3 : (y.fr != y.fr) = false := by simp
  have t4 : (y.ri != y.ri) = false := by simp
  clear hs1 hs2 hs3 hs4
  go_wp2_with fail
  clear c4x0 c4x1 c4x2 c4x3 c5x0 c5x1 c5x2 c5x3 c5x4 c6x0 c6x1 c6x2 c6x3 c6x4 c7x0 c7x1 c7x2 c7x3 c7x4 c8x0 c8x1 c8x2 c8x3 c8x4
  clear t1 t2 t3 t4 r5 r14 r17 r20 r23 hne
  go_loopw [24] (fun i wr => ∃ k : Nat, k ≤ 16 ∧ i = .int .i64 k ∧ Fr none' w wr ∧ Twin wr _ pm bm pr br 16 bs) (fun i _ => 16 - (intOf i).toNat)
  case atStart => exact ⟨0, by omega, rfl, f1, TW⟩
  case round =>
    clear f1 TW
    obtain ⟨k, hk, rfl, f1, TW⟩ := hrel
    by_cases hlt : k < 16
    · have hfl := length_frameOf bs k 16 TW.ram.len hlt
      go_wp2_with fail
      refine (frame_ok _ _ _ _ _ k TW.ram hlt).mono ?_
      rintro e w2 ⟨rfl, f2, rf⟩
      have hb1 := begins_row rf
      rw [hfl] at hb1
      replace TW := TW.keep0 f2
      replace f1 := f1.trans f2
      clear f2 rf
      go_wp2_with fail
      refine (rframe_ok _ _ _ _ _ k TW.ref hlt).mono ?_
      rintro e w3 ⟨g, cap', rfl, hg, f3, hb2⟩
      replace TW := TW.keep0 f3
      replace f1 := f1.trans f3
      replace hb1 := hb1.keep f3 (fun h => h)
      clear f3 hg
      go_wp2_with fail
      refine (same_frame _ _ _ _ _ _ hfl hb1 hb2).mono ?_
      rintro e w4 ⟨rfl, f4⟩
      replace TW := TW.keep0 f4
      replace f1 := f1.trans f4
      clear f4 hb1 hb2 hfl
      go_wp2_with fail
      go_roundw
      case rel => exact ⟨k + 1, by omega, by go_num, f1, TW⟩
      case measure => simp [intOf]; omega
    · go_wp2_with fail
      go_ret
      exact ⟨rfl, f1.below (Nat.le_refl _) (fun _ h => h.elim)⟩

end Go.Proofs.Ytnegnmoffidniaa
