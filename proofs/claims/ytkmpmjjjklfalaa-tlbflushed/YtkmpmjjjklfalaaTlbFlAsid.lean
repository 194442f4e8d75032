/-
  TlbFlushed over the translation, one kind of flush (asid): whatever acts and numbers came in, the law returns true, and nothing old turns. No statement is proved here.
-/
import Derived.Test.YtkmpmjjjklfalaaTlbActs
namespace Go.Proofs.Ytkmpmjjjklfalaa
open Go.RowKit

set_option maxRecDepth 100000 in
set_option maxHeartbeats 8000000 in
theorem flushed_asid (a0 : Option Addr) (len cap : Nat) (vm num : Int) (w : World) (hl : len ≤ 9223372036854775807) (ha : Acts w a0 len) :
    Calls Try.prog 6 #[.slice a0 len cap, .int .i64 1, .int .i64 vm, .int .i64 num] w fun e w' => e = .returned (.bool true) ∧ Fr none' w w' := by
  have HA : Hid (Acts w a0 len) := ha
  clear ha
  have hne := neq_line
  go_enter Try.func6, Try.ntmps6
  go_wp2_with fail
  refine (awake_any _).mono ?_
  rintro e w1 ⟨rfl, f1⟩
  go_wp2_with fail
  refine (new_any _).mono ?_
  rintro e w2 ⟨bt, rfl, hb, f2, t2⟩
  replace f2 := f1.trans f2
  replace hb := Nat.le_trans f1.size hb
  have p2 := pair_new f2 hb t2 (.cells (Array.replicate 42 (.int .i64 0)) 31) rfl
  replace f2 := f2.alloc (.cells (Array.replicate 42 (.int .i64 0)) 31)
  clear f1 t2
  go_wp2_with fail
  go_loopw [12] (fun i wr => ∃ (k : Nat) (T : Nat → Ln) (fo mi : Int), k ≤ len ∧ k ≤ 100 ∧ i = .int .i64 k ∧ Fr none' w wr ∧ Pair wr w.heap.size bt w2.heap.size T fo mi ∧ fo + mi ≤ k) (fun i _ => 100 - (intOf i).toNat)
  case atStart => exact ⟨0, fun _ => zl, 0, 0, by omega, by omega, rfl, f2, p2, by omega⟩
  case round =>
    clear f2 p2
    obtain ⟨k, T, fo, mi, hk1, hk2, rfl, fk, pk, hs⟩ := hrel
    by_cases hkl : k < len
    · by_cases hk3 : k < 100
      · obtain ⟨b, o, d, i, x, vm, sp, pg, rfl, hact⟩ := HA.out k hkl
        obtain ⟨c0, c1, c2, c3, c4, c5, c6, c7, c8, c9⟩ := hact.keep fk (fun h => h)
        have i1 : 0 ≤ (k : Int) ∧ (k : Int) < (len : Int) := by omega
        have u1 : decide ((k : Int) < (len : Int)) = true := decide_eq_true (by omega)
        have u2 : decide ((k : Int) < 100) = true := decide_eq_true (by omega)
        go_wp2_with fail
        refine (does_any _ _ _ _ _ _ _ pk (by omega) d i x vm sp pg).mono ?_
        rintro e w5 ⟨rfl, f5, p5⟩
        replace f5 := fk.pair f5 pk.new1 pk.new2
        have hsb := step_bounds d vm sp pg T
        clear c0 c1 c2 c3 c4 c5 c6 c7 c8 c9 hact fk pk
        go_wp2_with fail
        go_roundw
        case rel => exact ⟨k + 1, stepT d i x vm sp pg T, fo + stepF d vm sp pg T, mi + stepM d vm sp pg T, by omega, by omega, by go_num, f5, p5, by omega⟩
        case measure => simp [intOf]; omega
      · have u1 : decide ((k : Int) < (len : Int)) = true := decide_eq_true (by omega)
        have u2 : decide ((k : Int) < 100) = false := decide_eq_false (by omega)
        have tk := pk.tlb
        have hbt := pk.new1
        clear pk
        obtain ⟨w4, rfl⟩ : ∃ w4, w4 = wr := ⟨wr, rfl⟩
        go_wp2_with fail
        refine (lines_any _ _ _ _ _ tk).mono ?_
        rintro e w5 ⟨g1, rfl, hg1, f5, x1⟩
        have hlt5 := tk.lt
        have ng1 : g1 ≠ bt := by omega
        replace tk := tk.keep f5 (fun h => h)
        replace fk := fk.trans f5
        clear f5 hlt5
        go_wp2_with fail
        refine (flush_asid _ _ _ _ _ vm num tk).mono ?_
        rintro e w6 ⟨rfl, f6, t6⟩
        replace x1 := x1.keep f6 ng1
        replace fk := fk.lone f6 hbt
        clear f6 tk
        go_wp2_with fail
        refine (lines_any _ _ _ _ _ t6).mono ?_
        rintro e w7 ⟨g2, rfl, hg2, f7, z1⟩
        replace x1 := x1.keep f7 (fun h => h)
        replace fk := fk.trans f7
        clear f7 t6
        go_wp2_with fail
        go_loopw [16, 17] (fun n i wr => ∃ j : Nat, j ≤ 8 ∧ i = .int .i64 j ∧ n = .int .i64 (cnt (fun l => l.v == vm && l.a == num) T j) ∧ Fr none' w wr ∧ LineRow wr g1 8 8 T ∧ LineRow wr g2 8 8 (wipe (fun l => l.v == vm && l.a == num) T)) (fun _ i _ => 8 - (intOf i).toNat)
        case atStart => exact ⟨0, by omega, rfl, rfl, fk, x1, z1⟩
        case round =>
          clear fk x1 z1
          obtain ⟨j, hj, rfl, rfl, fj, xj, zj⟩ := hrel
          by_cases hjl : j < 8
          · have y1 : 0 ≤ (j : Int) ∧ (j : Int) < 8 := by omega
            have y2 : decide ((j : Int) < 8) = true := decide_eq_true (by omega)
            obtain ⟨c0, c1, c2, c3, c4⟩ := xj.cells j hjl
            have x4 := xj.alloc (.cells #[.int .i64 (T j).v, .int .i64 (T j).a, .int .i64 (T j).p, .int .i64 (T j).f, .int .i64 (T j).r] 28)
            have z4 := zj.alloc (.cells #[.int .i64 (T j).v, .int .i64 (T j).a, .int .i64 (T j).p, .int .i64 (T j).f, .int .i64 (T j).r] 28)
            have f4 := fj.alloc (.cells #[.int .i64 (T j).v, .int .i64 (T j).a, .int .i64 (T j).p, .int .i64 (T j).f, .int .i64 (T j).r] 28)
            obtain ⟨e0, e1, e2, e3, e4⟩ := z4.cells j hjl
            clear xj zj fj
            cases he : emp (T j) with
            | true =>
              have t0 : ((T j).v == 0 && ((T j).a == 0 && ((T j).p == 0 && ((T j).f == 0 && (T j).r == 0)))) = true := he
              have hgo : goes (fun l => l.v == vm && l.a == num) (T j) = false := by simp [goes, he]
              have hwp : wipe (fun l => l.v == vm && l.a == num) T j = T j := by simp [wipe, hgo]
              rw [hwp] at e0 e1 e2 e3 e4
              go_wp2_with fail
              go_quiet (fail)
              have f5 := f4.trans (fr_drewN _ nq)
              have x5 := x4.keep (fr_drewN _ nq) (fun h => h)
              have z5 := z4.keep (fr_drewN _ nq) (fun h => h)
              go_wp2_with fail
              go_roundw
              case rel => exact ⟨j + 1, by omega, by go_num, by simp [cnt, hgo], f5, x5, z5⟩
              case measure => simp [intOf]; omega
            | false =>
              have t0 : ((T j).v == 0 && ((T j).a == 0 && ((T j).p == 0 && ((T j).f == 0 && (T j).r == 0)))) = false := he
              cases t1 : ((T j).v == vm) with
              | false =>
                have hgo : goes (fun l => l.v == vm && l.a == num) (T j) = false := by simp [goes, t1]
                have hwp : wipe (fun l => l.v == vm && l.a == num) T j = T j := by simp [wipe, hgo]
                rw [hwp] at e0 e1 e2 e3 e4
                go_wp2_with fail
                go_quiet (fail)
                have f5 := f4.trans (fr_drewN _ nq)
                have x5 := x4.keep (fr_drewN _ nq) (fun h => h)
                have z5 := z4.keep (fr_drewN _ nq) (fun h => h)
                go_wp2_with fail
                go_roundw
                case rel => exact ⟨j + 1, by omega, by go_num, by simp [cnt, hgo], f5, x5, z5⟩
                case measure => simp [intOf]; omega
              | true =>
                cases t2 : ((T j).a == num) with
                | false =>
                  have hgo : goes (fun l => l.v == vm && l.a == num) (T j) = false := by simp [goes, t2]
                  have hwp : wipe (fun l => l.v == vm && l.a == num) T j = T j := by simp [wipe, hgo]
                  rw [hwp] at e0 e1 e2 e3 e4
                  go_wp2_with fail
                  go_quiet (fail)
                  have f5 := f4.trans (fr_drewN _ nq)
                  have x5 := x4.keep (fr_drewN _ nq) (fun h => h)
                  have z5 := z4.keep (fr_drewN _ nq) (fun h => h)
                  go_wp2_with fail
                  go_roundw
                  case rel => exact ⟨j + 1, by omega, by go_num, by simp [cnt, hgo], f5, x5, z5⟩
                  case measure => simp [intOf]; omega
                | true =>
                  have hgo : goes (fun l => l.v == vm && l.a == num) (T j) = true := by simp [goes, he, t1, t2]
                  have hwp : wipe (fun l => l.v == vm && l.a == num) T j = zl := by simp [wipe, hgo]
                  rw [hwp] at e0 e1 e2 e3 e4
                  have hcb := cnt_bounds (fun l => l.v == vm && l.a == num) T j
                  have hcc : cnt (fun l => l.v == vm && l.a == num) T (j + 1) = cnt (fun l => l.v == vm && l.a == num) T j + 1 := by simp [cnt, hgo]
                  change _ = some (Value.int IntKind.i64 0) at e0 e1 e2 e3 e4
                  go_wp2_with fail
                  go_quiet (fail)
                  have f5 := f4.trans (fr_drewN _ nq)
                  have x5 := x4.keep (fr_drewN _ nq) (fun h => h)
                  have z5 := z4.keep (fr_drewN _ nq) (fun h => h)
                  go_wp2_with fail
                  go_roundw
                  case rel => exact ⟨j + 1, by omega, by go_num, by rw [hcc], f5, x5, z5⟩
                  case measure => simp [intOf]; omega
          · obtain rfl : j = 8 := by omega
            have y3 : (cnt (fun l => l.v == vm && l.a == num) T 8 == cnt (fun l => l.v == vm && l.a == num) T 8) = true := by simp
            go_wp2_with fail
            go_ret
            exact ⟨rfl, fj⟩
    · have u1 : decide ((k : Int) < (len : Int)) = false := decide_eq_false (by omega)
      have tk := pk.tlb
      have hbt := pk.new1
      clear pk
      obtain ⟨w4, rfl⟩ : ∃ w4, w4 = wr := ⟨wr, rfl⟩
      go_wp2_with fail
      refine (lines_any _ _ _ _ _ tk).mono ?_
      rintro e w5 ⟨g1, rfl, hg1, f5, x1⟩
      have hlt5 := tk.lt
      have ng1 : g1 ≠ bt := by omega
      replace tk := tk.keep f5 (fun h => h)
      replace fk := fk.trans f5
      clear f5 hlt5
      go_wp2_with fail
      refine (flush_asid _ _ _ _ _ vm num tk).mono ?_
      rintro e w6 ⟨rfl, f6, t6⟩
      replace x1 := x1.keep f6 ng1
      replace fk := fk.lone f6 hbt
      clear f6 tk
      go_wp2_with fail
      refine (lines_any _ _ _ _ _ t6).mono ?_
      rintro e w7 ⟨g2, rfl, hg2, f7, z1⟩
      replace x1 := x1.keep f7 (fun h => h)
      replace fk := fk.trans f7
      clear f7 t6
      go_wp2_with fail
      go_loopw [16, 17] (fun n i wr => ∃ j : Nat, j ≤ 8 ∧ i = .int .i64 j ∧ n = .int .i64 (cnt (fun l => l.v == vm && l.a == num) T j) ∧ Fr none' w wr ∧ LineRow wr g1 8 8 T ∧ LineRow wr g2 8 8 (wipe (fun l => l.v == vm && l.a == num) T)) (fun _ i _ => 8 - (intOf i).toNat)
      case atStart => exact ⟨0, by omega, rfl, rfl, fk, x1, z1⟩
      case round =>
        clear fk x1 z1
        obtain ⟨j, hj, rfl, rfl, fj, xj, zj⟩ := hrel
        by_cases hjl : j < 8
        · have y1 : 0 ≤ (j : Int) ∧ (j : Int) < 8 := by omega
          have y2 : decide ((j : Int) < 8) = true := decide_eq_true (by omega)
          obtain ⟨c0, c1, c2, c3, c4⟩ := xj.cells j hjl
          have x4 := xj.alloc (.cells #[.int .i64 (T j).v, .int .i64 (T j).a, .int .i64 (T j).p, .int .i64 (T j).f, .int .i64 (T j).r] 28)
          have z4 := zj.alloc (.cells #[.int .i64 (T j).v, .int .i64 (T j).a, .int .i64 (T j).p, .int .i64 (T j).f, .int .i64 (T j).r] 28)
          have f4 := fj.alloc (.cells #[.int .i64 (T j).v, .int .i64 (T j).a, .int .i64 (T j).p, .int .i64 (T j).f, .int .i64 (T j).r] 28)
          obtain ⟨e0, e1, e2, e3, e4⟩ := z4.cells j hjl
          clear xj zj fj
          cases he : emp (T j) with
          | true =>
            have t0 : ((T j).v == 0 && ((T j).a == 0 && ((T j).p == 0 && ((T j).f == 0 && (T j).r == 0)))) = true := he
            have hgo : goes (fun l => l.v == vm && l.a == num) (T j) = false := by simp [goes, he]
            have hwp : wipe (fun l => l.v == vm && l.a == num) T j = T j := by simp [wipe, hgo]
            rw [hwp] at e0 e1 e2 e3 e4
            go_wp2_with fail
            go_quiet (fail)
            have f5 := f4.trans (fr_drewN _ nq)
            have x5 := x4.keep (fr_drewN _ nq) (fun h => h)
            have z5 := z4.keep (fr_drewN _ nq) (fun h => h)
            go_wp2_with fail
            go_roundw
            case rel => exact ⟨j + 1, by omega, by go_num, by simp [cnt, hgo], f5, x5, z5⟩
            case measure => simp [intOf]; omega
          | false =>
            have t0 : ((T j).v == 0 && ((T j).a == 0 && ((T j).p == 0 && ((T j).f == 0 && (T j).r == 0)))) = false := he
            cases t1 : ((T j).v == vm) with
            | false =>
              have hgo : goes (fun l => l.v == vm && l.a == num) (T j) = false := by simp [goes, t1]
              have hwp : wipe (fun l => l.v == vm && l.a == num) T j = T j := by simp [wipe, hgo]
              rw [hwp] at e0 e1 e2 e3 e4
              go_wp2_with fail
              go_quiet (fail)
              have f5 := f4.trans (fr_drewN _ nq)
              have x5 := x4.keep (fr_drewN _ nq) (fun h => h)
              have z5 := z4.keep (fr_drewN _ nq) (fun h => h)
              go_wp2_with fail
              go_roundw
              case rel => exact ⟨j + 1, by omega, by go_num, by simp [cnt, hgo], f5, x5, z5⟩
              case measure => simp [intOf]; omega
            | true =>
              cases t2 : ((T j).a == num) with
              | false =>
                have hgo : goes (fun l => l.v == vm && l.a == num) (T j) = false := by simp [goes, t2]
                have hwp : wipe (fun l => l.v == vm && l.a == num) T j = T j := by simp [wipe, hgo]
                rw [hwp] at e0 e1 e2 e3 e4
                go_wp2_with fail
                go_quiet (fail)
                have f5 := f4.trans (fr_drewN _ nq)
                have x5 := x4.keep (fr_drewN _ nq) (fun h => h)
                have z5 := z4.keep (fr_drewN _ nq) (fun h => h)
                go_wp2_with fail
                go_roundw
                case rel => exact ⟨j + 1, by omega, by go_num, by simp [cnt, hgo], f5, x5, z5⟩
                case measure => simp [intOf]; omega
              | true =>
                have hgo : goes (fun l => l.v == vm && l.a == num) (T j) = true := by simp [goes, he, t1, t2]
                have hwp : wipe (fun l => l.v == vm && l.a == num) T j = zl := by simp [wipe, hgo]
                rw [hwp] at e0 e1 e2 e3 e4
                have hcb := cnt_bounds (fun l => l.v == vm && l.a == num) T j
                have hcc : cnt (fun l => l.v == vm && l.a == num) T (j + 1) = cnt (fun l => l.v == vm && l.a == num) T j + 1 := by simp [cnt, hgo]
                change _ = some (Value.int IntKind.i64 0) at e0 e1 e2 e3 e4
                go_wp2_with fail
                go_quiet (fail)
                have f5 := f4.trans (fr_drewN _ nq)
                have x5 := x4.keep (fr_drewN _ nq) (fun h => h)
                have z5 := z4.keep (fr_drewN _ nq) (fun h => h)
                go_wp2_with fail
                go_roundw
                case rel => exact ⟨j + 1, by omega, by go_num, by rw [hcc], f5, x5, z5⟩
                case measure => simp [intOf]; omega
        · obtain rfl : j = 8 := by omega
          have y3 : (cnt (fun l => l.v == vm && l.a == num) T 8 == cnt (fun l => l.v == vm && l.a == num) T 8) = true := by simp
          go_wp2_with fail
          go_ret
          exact ⟨rfl, fj⟩

end Go.Proofs.Ytkmpmjjjklfalaa
