/-
  TlbKeeps over the translation, where nothing is filled: whatever acts came in, the law returns true, and nothing old turns. No statement is proved here.
-/
import Derived.Test.YtkmpmjjjklfalaaTlbActs
namespace Go.Proofs.Ytkmpmjjjklfalaa
open Go.RowKit

set_option maxRecDepth 100000 in
set_option maxHeartbeats 8000000 in
theorem keeps_bad (a0 : Option Addr) (len cap : Nat) (i : Int) (x : Ln) (w : World) (hl : len ≤ 9223372036854775807) (ha : Acts w a0 len) (hE : (fillE i x != 0) = true) (hT : ∀ T, fillT T i x = T) :
    Calls Try.prog 7 #[.slice a0 len cap, .int .i64 i, .agg #[.int .i64 x.v, .int .i64 x.a, .int .i64 x.p, .int .i64 x.f, .int .i64 x.r]] w fun e w' => e = .returned (.bool true) ∧ Fr none' w w' := by
  have HA : Hid (Acts w a0 len) := ha
  clear ha
  have r0 := row_alloc w #[.int .i64 x.v, .int .i64 x.a, .int .i64 x.p, .int .i64 x.f, .int .i64 x.r] 28
  have fw := (Fr.refl none' w).alloc (.cells #[.int .i64 x.v, .int .i64 x.a, .int .i64 x.p, .int .i64 x.f, .int .i64 x.r] 28)
  have hne := neq_line
  go_enter Try.func7, Try.ntmps7
  go_wp2_with fail
  obtain ⟨w0, hw0⟩ : ∃ w0, w0 = w.alloc (.cells #[.int .i64 x.v, .int .i64 x.a, .int .i64 x.p, .int .i64 x.f, .int .i64 x.r] 28) := ⟨_, rfl⟩
  rw [← hw0] at r0 fw ⊢
  replace HA : Hid (Acts w0 a0 len) := fun k hk => by
    obtain ⟨b, o, d, i', x', vm, sp, pg, e, h⟩ := HA.out k hk
    exact ⟨b, o, d, i', x', vm, sp, pg, e, h.keep fw (fun h => h)⟩
  have hsz : w0.heap.size = w.heap.size + 1 := by rw [hw0]; simp
  clear hw0
  refine (awake_any _).mono ?_
  rintro e w1 ⟨rfl, f1⟩
  go_wp2_with fail
  refine (new_any _).mono ?_
  rintro e w2 ⟨bt, rfl, hb, f2, t2⟩
  replace f2 := f1.trans f2
  replace hb := Nat.le_trans f1.size hb
  have p2 := pair_new f2 hb t2 (.cells (Array.replicate 42 (.int .i64 0)) 31) rfl
  replace f2 := f2.alloc (.cells (Array.replicate 42 (.int .i64 0)) 31)
  clear f1 t2
  go_wp2_with fail
  go_loopw [10] (fun i wr => ∃ (k : Nat) (T : Nat → Ln) (fo mi : Int), k ≤ len ∧ k ≤ 100 ∧ i = .int .i64 k ∧ Fr none' w0 wr ∧ Pair wr w0.heap.size bt w2.heap.size T fo mi ∧ fo + mi ≤ k) (fun i _ => 100 - (intOf i).toNat)
  case atStart => exact ⟨0, fun _ => zl, 0, 0, by omega, by omega, rfl, f2, p2, by omega⟩
  case round =>
    clear f2 p2
    obtain ⟨k, T, fo, mi, hk1, hk2, rfl, fk, pk, hs⟩ := hrel
    by_cases hkl : k < len
    · by_cases hk3 : k < 100
      · obtain ⟨b, o, d, ia, xa, vm, sp, pg, rfl, hact⟩ := HA.out k hkl
        obtain ⟨c0, c1, c2, c3, c4, c5, c6, c7, c8, c9⟩ := hact.keep fk (fun h => h)
        have i1 : 0 ≤ (k : Int) ∧ (k : Int) < (len : Int) := by omega
        have u1 : decide ((k : Int) < (len : Int)) = true := decide_eq_true (by omega)
        have u2 : decide ((k : Int) < 100) = true := decide_eq_true (by omega)
        go_wp2_with fail
        refine (does_any _ _ _ _ _ _ _ pk (by omega) d ia xa vm sp pg).mono ?_
        rintro e w5 ⟨rfl, f5, p5⟩
        replace f5 := fk.pair f5 pk.new1 pk.new2
        have hsb := step_bounds d vm sp pg T
        clear c0 c1 c2 c3 c4 c5 c6 c7 c8 c9 hact fk pk
        go_wp2_with fail
        go_roundw
        case rel => exact ⟨k + 1, stepT d ia xa vm sp pg T, fo + stepF d vm sp pg T, mi + stepM d vm sp pg T, by omega, by omega, by go_num, f5, p5, by omega⟩
        case measure => simp [intOf]; omega
      · have u1 : decide ((k : Int) < (len : Int)) = true := decide_eq_true (by omega)
        have u2 : decide ((k : Int) < 100) = false := decide_eq_false (by omega)
        have tk := pk.tlb
        have gk := pk.good
        have uk := pk.uniq
        have hbt := pk.new1
        have q1 := pk.fo0
        have q2 := pk.mi0
        clear pk
        obtain ⟨w4, rfl⟩ : ∃ w4, w4 = wr := ⟨wr, rfl⟩
        go_wp2_with fail
        refine (lines_any _ _ _ _ _ tk).mono ?_
        rintro e w5 ⟨g1, rfl, hg1, f5, x1⟩
        have hlt5 := tk.lt
        have ng1 : g1 ≠ bt := by omega
        have nb0 : w.heap.size ≠ bt := by omega
        replace tk := tk.keep f5 (fun h => h)
        replace fk := fk.trans f5
        have rk := r0.keep fk (fun h => h)
        obtain ⟨c0, c1, c2, c3, c4⟩ := row5 rk
        clear f5 hlt5
        go_wp2_with fail
        refine (fill_any _ _ _ _ _ tk i x).mono ?_
        rintro e w6 ⟨rfl, f6, t6⟩
        replace x1 := x1.keep f6 ng1
        replace rk := rk.keep f6 nb0
        replace fk := fk.lone f6 hbt
        clear f6 tk c0 c1 c2 c3 c4
        rw [hT] at t6
        go_wp2_with fail
        refine (lines_any _ _ _ _ _ t6).mono ?_
        rintro e w7 ⟨g2, rfl, hg2, f7, z1⟩
        replace x1 := x1.keep f7 (fun h => h)
        replace fk := fk.trans f7
        clear f7 t6 rk
        go_wp2_with fail
        go_loopw [14] (fun i wr => ∃ j : Nat, j ≤ 8 ∧ i = .int .i64 j ∧ Fr none' w0 wr ∧ LineRow wr g1 8 8 T ∧ LineRow wr g2 8 8 T) (fun i _ => 8 - (intOf i).toNat)
        case atStart => exact ⟨0, by omega, rfl, fk, x1, z1⟩
        case round =>
          clear fk x1 z1
          obtain ⟨j, hj, rfl, fj, xj, zj⟩ := hrel
          by_cases hjl : j < 8
          · have y1 : 0 ≤ (j : Int) ∧ (j : Int) < 8 := by omega
            have y2 : decide ((j : Int) < 8) = true := decide_eq_true (by omega)
            obtain ⟨c0, c1, c2, c3, c4⟩ := xj.cells j hjl
            obtain ⟨e0, e1, e2, e3, e4⟩ := zj.cells j hjl
            go_wp2_with fail
            go_quiet (fail)
            have f5 := fj.trans (fr_drewN _ nq)
            have x5 := xj.keep (fr_drewN _ nq) (fun h => h)
            have z5 := zj.keep (fr_drewN _ nq) (fun h => h)
            go_wp2_with fail
            go_roundw
            case rel => exact ⟨j + 1, by omega, by go_num, f5, x5, z5⟩
            case measure => simp [intOf]; omega
          · obtain rfl : j = 8 := by omega
            go_wp2_with fail
            go_ret
            exact ⟨rfl, fw.trans fj⟩
    · have u1 : decide ((k : Int) < (len : Int)) = false := decide_eq_false (by omega)
      have tk := pk.tlb
      have gk := pk.good
      have uk := pk.uniq
      have hbt := pk.new1
      have q1 := pk.fo0
      have q2 := pk.mi0
      clear pk
      obtain ⟨w4, rfl⟩ : ∃ w4, w4 = wr := ⟨wr, rfl⟩
      go_wp2_with fail
      refine (lines_any _ _ _ _ _ tk).mono ?_
      rintro e w5 ⟨g1, rfl, hg1, f5, x1⟩
      have hlt5 := tk.lt
      have ng1 : g1 ≠ bt := by omega
      have nb0 : w.heap.size ≠ bt := by omega
      replace tk := tk.keep f5 (fun h => h)
      replace fk := fk.trans f5
      have rk := r0.keep fk (fun h => h)
      obtain ⟨c0, c1, c2, c3, c4⟩ := row5 rk
      clear f5 hlt5
      go_wp2_with fail
      refine (fill_any _ _ _ _ _ tk i x).mono ?_
      rintro e w6 ⟨rfl, f6, t6⟩
      replace x1 := x1.keep f6 ng1
      replace rk := rk.keep f6 nb0
      replace fk := fk.lone f6 hbt
      clear f6 tk c0 c1 c2 c3 c4
      rw [hT] at t6
      go_wp2_with fail
      refine (lines_any _ _ _ _ _ t6).mono ?_
      rintro e w7 ⟨g2, rfl, hg2, f7, z1⟩
      replace x1 := x1.keep f7 (fun h => h)
      replace fk := fk.trans f7
      clear f7 t6 rk
      go_wp2_with fail
      go_loopw [14] (fun i wr => ∃ j : Nat, j ≤ 8 ∧ i = .int .i64 j ∧ Fr none' w0 wr ∧ LineRow wr g1 8 8 T ∧ LineRow wr g2 8 8 T) (fun i _ => 8 - (intOf i).toNat)
      case atStart => exact ⟨0, by omega, rfl, fk, x1, z1⟩
      case round =>
        clear fk x1 z1
        obtain ⟨j, hj, rfl, fj, xj, zj⟩ := hrel
        by_cases hjl : j < 8
        · have y1 : 0 ≤ (j : Int) ∧ (j : Int) < 8 := by omega
          have y2 : decide ((j : Int) < 8) = true := decide_eq_true (by omega)
          obtain ⟨c0, c1, c2, c3, c4⟩ := xj.cells j hjl
          obtain ⟨e0, e1, e2, e3, e4⟩ := zj.cells j hjl
          go_wp2_with fail
          go_quiet (fail)
          have f5 := fj.trans (fr_drewN _ nq)
          have x5 := xj.keep (fr_drewN _ nq) (fun h => h)
          have z5 := zj.keep (fr_drewN _ nq) (fun h => h)
          go_wp2_with fail
          go_roundw
          case rel => exact ⟨j + 1, by omega, by go_num, f5, x5, z5⟩
          case measure => simp [intOf]; omega
        · obtain rfl : j = 8 := by omega
          go_wp2_with fail
          go_ret
          exact ⟨rfl, fw.trans fj⟩

end Go.Proofs.Ytkmpmjjjklfalaa
