/-
  The law WalkConfined walked: whatever came in, it answers true and turns nothing old. No statement is proved here.
-/
import Derived.Test.YtnegnmoffidniaaWalkAwake
import Derived.Test.YtnegnmoffidniaaWalkPure
namespace Go.Proofs.Ytnegnmoffidniaa
open Go.RowKit

set_option maxHeartbeats 8000000 in
set_option maxRecDepth 100000 in
theorem confined_any (w : World) (a0 : Option Addr) (len cap : Nat) (P : Nat → Pt) (hl : len ≤ 9223372036854775807) (hP : Puts w a0 len P) (vm sd first second page want : Int) :
    Calls Try.prog 6 #[.slice a0 len cap, .agg #[.int .i64 vm, .int .i64 sd, .int .i64 first, .int .i64 second], .int .i64 page, .int .i64 want] w fun e w' => e = .returned (.bool true) ∧ Below w.heap.size w w' := by
  have f1 := Fr.refl none' w
  have r5 := row_alloc w #[.int .i64 vm, .int .i64 sd, .int .i64 first, .int .i64 second] 24
  replace hP := hP.keep ((Fr.refl none' _).alloc (.cells #[.int .i64 vm, .int .i64 sd, .int .i64 first, .int .i64 second] 24))
  replace f1 := f1.alloc (.cells #[.int .i64 vm, .int .i64 sd, .int .i64 first, .int .i64 second] 24)
  go_enter Try.func6, Try.ntmps6
  go_wp2_with fail
  refine (awake_any _).mono ?_
  rintro e v1 ⟨rfl, g1⟩
  replace hP := hP.keep g1
  replace r5 := r5.keep g1 (fun h => h)
  replace f1 := f1.trans g1
  clear g1
  go_wp2_with fail
  refine (laid_any _ _ _ _ P hl hP).mono ?_
  rintro e vl ⟨pm, bm, pr, br, rfl, gl, TW⟩
  obtain ⟨bs, hbs⟩ : ∃ bs, laidB P (min len 200) = bs := ⟨_, rfl⟩
  rw [hbs] at TW
  have hTW := TW.lo
  clear hbs hP hl
  replace r5 := r5.keep gl (fun h => h)
  replace f1 := f1.trans gl
  clear gl
  obtain ⟨x, hx⟩ : ∃ x, nested bs 16 first second page want = x := ⟨_, rfl⟩
  have hs1 := fun w0 h0 => nested_any w0 pm bm 16 bs vm sd first second page want h0
  rw [hx] at hs1
  have hz := nested_zero bs 16 first second page want
  have hc := confined bs 16 first second page want
  rw [hx] at hz hc
  clear hx
  obtain ⟨c0x0, c0x1, c0x2, c0x3⟩ := row4 r5
  go_wp2_with fail
  refine (hs1 _ TW.ram).mono ?_
  rintro e v2 ⟨rfl, g2⟩
  clear c0x0 c0x1 c0x2 c0x3
  replace TW := TW.keep0 g2
  replace r5 := r5.keep g2 (fun h => h)
  replace f1 := f1.trans g2
  clear g2
  have r14 := row_alloc v2 #[.int .i64 x.ft.k, .int .i64 x.ft.s, .int .i64 x.ft.l, .bool x.ft.wk, .int .i64 x.ft.p] 31
  replace TW := TW.keep0 ((Fr.refl none' _).alloc (.cells #[.int .i64 x.ft.k, .int .i64 x.ft.s, .int .i64 x.ft.l, .bool x.ft.wk, .int .i64 x.ft.p] 31))
  replace r5 := r5.alloc (.cells #[.int .i64 x.ft.k, .int .i64 x.ft.s, .int .i64 x.ft.l, .bool x.ft.wk, .int .i64 x.ft.p] 31)
  replace f1 := f1.alloc (.cells #[.int .i64 x.ft.k, .int .i64 x.ft.s, .int .i64 x.ft.l, .bool x.ft.wk, .int .i64 x.ft.p] 31)
  obtain ⟨c1x0, c1x1, c1x2, c1x3, c1x4⟩ := cells5 r14
  clear hs1
  by_cases hk : x.ft.k = 0
  · obtain ⟨q1, g0, hg0, q2, q3, q4, q5⟩ := hc hk
    have t1 : (x.ft.k != 0) = false := by simp [hk]
    have t2 : (bits .and .i64 x.ri want == 0) = false := by simp [q1]
    have H : Hid ((single bs 16 second (g0 : Int)).ft.k = 0 ∧ (single bs 16 second (g0 : Int)).fr = x.fr ∧ bits .and .i64 (single bs 16 second (g0 : Int)).ri want ≠ 0 ∧ bits .andNot .i64 x.ri (single bs 16 second (g0 : Int)).ri = 0) := ⟨q2, q3, q4, q5⟩
    clear hz hc hk q1 q2 q3 q4 q5
    go_wp2_with fail
    clear t1 t2 c1x0 c1x1 c1x2 c1x3 c1x4 r14
    go_loopw [15] (fun i wr => ∃ k : Nat, k ≤ g0 ∧ i = .int .i64 k ∧ Fr none' w wr ∧ Row wr w.heap.size #[.int .i64 vm, .int .i64 sd, .int .i64 first, .int .i64 second] 24 ∧ Twin wr _ pm bm pr br 16 bs) (fun i _ => 1024 - (intOf i).toNat)
    case atStart => exact ⟨0, by omega, rfl, f1, r5, TW⟩
    case round =>
      clear f1 TW r5
      obtain ⟨k, hk, rfl, f1, r5, TW⟩ := hrel
      have i1 : (k : Int) < 1024 := by omega
      obtain ⟨y, hy⟩ : ∃ y, single bs 16 second (k : Int) = y := ⟨_, rfl⟩
      have hs := fun w0 h0 => single_any w0 pm bm 16 bs second (k : Int) h0
      rw [hy] at hs
      have H2 : Hid (k = g0 → y.ft.k = 0 ∧ y.fr = x.fr ∧ bits .and .i64 y.ri want ≠ 0 ∧ bits .andNot .i64 x.ri y.ri = 0) := fun hh => by subst hh; rw [hy] at H; exact H
      clear hy
      obtain ⟨s0, s1, s2, s3⟩ := row4 r5
      go_wp2_with fail
      refine (hs _ TW.ram).mono ?_
      rintro e w2 ⟨rfl, f2⟩
      clear s0 s1 s2 s3 hs
      replace TW := (TW.keep0 f2).keep0 ((Fr.refl none' _).alloc (.cells #[.int .i64 y.ft.k, .int .i64 y.ft.s, .int .i64 y.ft.l, .bool y.ft.wk, .int .i64 y.ft.p] 31))
      replace r5 := (r5.keep f2 (fun h => h)).alloc (.cells #[.int .i64 y.ft.k, .int .i64 y.ft.s, .int .i64 y.ft.l, .bool y.ft.wk, .int .i64 y.ft.p] 31)
      replace f1 := (f1.trans f2).alloc (.cells #[.int .i64 y.ft.k, .int .i64 y.ft.s, .int .i64 y.ft.l, .bool y.ft.wk, .int .i64 y.ft.p] 31)
      clear f2
      by_cases hgo : k = g0
      · obtain ⟨q2, q3, q4, q5⟩ := H2.out hgo
        have t1 : (y.ft.k == 0) = true := by simp [q2]
        have t2 : (y.fr == x.fr) = true := by simp [q3]
        have t3 : (bits .and .i64 y.ri want != 0) = true := by simp [q4]
        have t4 : (bits .andNot .i64 x.ri y.ri == 0) = true := by simp [q5]
        clear q2 q3 q4 q5 hgo H H2
        go_wp2_with fail
        go_ret
        exact ⟨rfl, f1.below (Nat.le_refl _) (fun _ h => h.elim)⟩
      · have hnext : k + 1 ≤ g0 := by omega
        clear hgo H2
        cases t1 : (y.ft.k == 0) with
        | false =>
          go_wp2_with fail
          go_roundw
          case rel => exact ⟨k + 1, hnext, by go_num, f1, r5, TW⟩
          case measure => simp [intOf]; omega
        | true =>
          cases t2 : (y.fr == x.fr) with
          | false =>
            go_wp2_with fail
            go_roundw
            case rel => exact ⟨k + 1, hnext, by go_num, f1, r5, TW⟩
            case measure => simp [intOf]; omega
          | true =>
            cases t3 : (bits .and .i64 y.ri want != 0) with
            | false =>
              go_wp2_with fail
              go_roundw
              case rel => exact ⟨k + 1, hnext, by go_num, f1, r5, TW⟩
              case measure => simp [intOf]; omega
            | true =>
              cases t4 : (bits .andNot .i64 x.ri y.ri == 0) with
              | false =>
                go_wp2_with fail
                go_roundw
                case rel => exact ⟨k + 1, hnext, by go_num, f1, r5, TW⟩
                case measure => simp [intOf]; omega
              | true =>
                go_wp2_with fail
                go_ret
                exact ⟨rfl, f1.below (Nat.le_refl _) (fun _ h => h.elim)⟩
  · have t1 : (x.ft.k != 0) = true := by simp [hk]
    obtain ⟨z1, z2⟩ := hz hk
    have t2 : (x.fr == 0) = true := by simp [z1]
    have t3 : (x.ri == 0) = true := by simp [z2]
    clear hc hz hk z1 z2
    go_wp2_with fail
    go_ret
    exact ⟨rfl, f1.below (Nat.le_refl _) (fun _ h => h.elim)⟩

end Go.Proofs.Ytnegnmoffidniaa
