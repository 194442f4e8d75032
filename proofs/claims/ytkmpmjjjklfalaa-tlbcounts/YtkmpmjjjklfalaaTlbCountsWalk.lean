/-
  TlbCounts over the translation: whatever acts and pages came in, the law returns true, and nothing old turns. No statement is proved here.
-/
import Derived.Test.YtkmpmjjjklfalaaTlbActs
namespace Go.Proofs.Ytkmpmjjjklfalaa
open Go.RowKit

set_option maxRecDepth 100000 in
set_option maxHeartbeats 4000000 in
theorem counts_row (a0 : Option Addr) (len cap : Nat) (a1 : Option Addr) (lp cp : Nat) (w : World) (hl : len ≤ 9223372036854775807) (ha : Acts w a0 len) (hlp' : lp ≤ 9223372036854775807) (hp : Nums w a1 lp) :
    Calls Try.prog 8 #[.slice a0 len cap, .slice a1 lp cp] w fun e w' => e = .returned (.bool true) ∧ Fr none' w w' := by
  have HA : Hid (Acts w a0 len) := ha
  have HP : Hid (Nums w a1 lp) := hp
  clear ha hp
  go_enter Try.func8, Try.ntmps8
  go_wp2_with fail
  refine (awake_any _).mono ?_
  rintro e w1 ⟨rfl, f1⟩
  go_wp2_with fail
  refine (new_any _).mono ?_
  rintro e w2 ⟨bt, rfl, hb, f2, t2⟩
  replace f2 := f1.trans f2
  replace hb := Nat.le_trans f1.size hb
  have p2 := pair_new f2 hb t2 (.cells (Array.replicate 42 (.int .i64 0)) 31) rfl
  replace f2 := f2.alloc (.cells (Array.replicate 42 (.int .i64 0)) 31)
  clear f1 t2
  go_wp2_with fail
  go_loopw [8] (fun i wr => ∃ (k : Nat) (T : Nat → Ln) (fo mi : Int), k ≤ len ∧ k ≤ 100 ∧ i = .int .i64 k ∧ Fr none' w wr ∧ Pair wr w.heap.size bt w2.heap.size T fo mi ∧ fo + mi ≤ k) (fun i _ => 100 - (intOf i).toNat)
  case atStart => exact ⟨0, fun _ => zl, 0, 0, by omega, by omega, rfl, f2, p2, by omega⟩
  case round =>
    clear f2 p2
    obtain ⟨k, T, fo, mi, hk1, hk2, rfl, fk, pk, hs⟩ := hrel
    by_cases hkl : k < len
    · by_cases hk3 : k < 100
      · obtain ⟨b, o, d, i, x, vm, sp, pg, rfl, hact⟩ := HA.out k hkl
        obtain ⟨c0, c1, c2, c3, c4, c5, c6, c7, c8, c9⟩ := hact.keep fk (fun h => h)
        have i1 : 0 ≤ (k : Int) ∧ (k : Int) < (len : Int) := by omega
        have u1 : decide ((k : Int) < (len : Int)) = true := decide_eq_true (by omega)
        have u2 : decide ((k : Int) < 100) = true := decide_eq_true (by omega)
        go_wp2_with fail
        refine (does_any _ _ _ _ _ _ _ pk (by omega) d i x vm sp pg).mono ?_
        rintro e w5 ⟨rfl, f5, p5⟩
        replace f5 := fk.pair f5 pk.new1 pk.new2
        have hsb := step_bounds d vm sp pg T
        clear c0 c1 c2 c3 c4 c5 c6 c7 c8 c9 hact fk pk
        go_wp2_with fail
        go_roundw
        case rel => exact ⟨k + 1, stepT d i x vm sp pg T, fo + stepF d vm sp pg T, mi + stepM d vm sp pg T, by omega, by omega, by go_num, f5, p5, by omega⟩
        case measure => simp [intOf]; omega
      · have u1 : decide ((k : Int) < (len : Int)) = true := decide_eq_true (by omega)
        have u2 : decide ((k : Int) < 100) = false := decide_eq_false (by omega)
        have hlp := pk.fo0
        have hlm := pk.mi0
        have tk := pk.tlb
        have hbt := pk.new1
        clear pk
        obtain ⟨w4, rfl⟩ : ∃ w4, w4 = wr := ⟨wr, rfl⟩
        go_wp2_with fail
        refine (counts_any _ _ _ _ _ tk).mono ?_
        rintro e w5 ⟨rfl, f5⟩
        replace tk := tk.keep f5 (fun h => h)
        replace fk := fk.trans f5
        clear f5
        go_wp2_with fail
        go_loopw [11, 12] (fun n i wr => ∃ (j : Nat) (q : Int), j ≤ lp ∧ j ≤ 100 ∧ i = .int .i64 j ∧ n = .int .i64 q ∧ 0 ≤ q ∧ q ≤ j ∧ Fr none' w wr ∧ IsTlb wr bt T (fo + q) (mi + (j - q))) (fun _ i _ => 100 - (intOf i).toNat)
        case atStart => exact ⟨0, 0, by omega, by omega, rfl, rfl, by omega, by omega, fk, by simpa using tk⟩
        case round =>
          clear tk fk
          obtain ⟨j, q, hj1, hj2, rfl, rfl, hq1, hq2, fj, tj⟩ := hrel
          by_cases hjl : j < lp
          · by_cases hj3 : j < 100
            · obtain ⟨bp, op, n, rfl, hcell⟩ := HP.out j hjl
              have cp := cell_keep fj hcell (fun h => h)
              have y1 : 0 ≤ (j : Int) ∧ (j : Int) < (lp : Int) := by omega
              have y2 : decide ((j : Int) < (lp : Int)) = true := decide_eq_true (by omega)
              have y3 : decide ((j : Int) < 100) = true := decide_eq_true (by omega)
              go_wp2_with fail
              refine (find_any _ _ _ _ _ 1 0 n tj (by omega) (by omega)).mono ?_
              rintro e w6 ⟨rfl, f6, t6⟩
              replace f6 := fj.lone f6 hbt
              clear cp hcell fj tj
              have hmb := more_bounds (idx T 1 0 n 8)
              cases hb6 : decide (idx T 1 0 n 8 < 0) with
              | true =>
                rw [show moreF (idx T 1 0 n 8) = 0 by simp only [moreF, hb6, cond_true], show moreM (idx T 1 0 n 8) = 1 by simp only [moreM, hb6, cond_true]] at t6
                rw [show ansB (idx T 1 0 n 8) = false by simp only [ansB, hb6, Bool.not_true]]
                clear hb6 hmb
                go_wp2_with fail
                go_roundw
                case rel => exact ⟨j + 1, q, by omega, by omega, by go_num, rfl, hq1, by omega, f6, by
                  have e1 : mi + (((j + 1 : Nat) : Int) - q) = mi + ((j : Int) - q) + 1 := by omega
                  rw [e1]; simpa using t6⟩
                case measure => simp [intOf]; omega
              | false =>
                rw [show moreF (idx T 1 0 n 8) = 1 by simp only [moreF, hb6, cond_false], show moreM (idx T 1 0 n 8) = 0 by simp only [moreM, hb6, cond_false]] at t6
                rw [show ansB (idx T 1 0 n 8) = true by simp only [ansB, hb6, Bool.not_false]]
                clear hb6 hmb
                go_wp2_with fail
                go_roundw
                case rel => exact ⟨j + 1, q + 1, by omega, by omega, by go_num, by go_num, by omega, by omega, f6, by
                  have e1 : mi + (((j + 1 : Nat) : Int) - (q + 1)) = mi + ((j : Int) - q) + 0 := by omega
                  have e2 : fo + (q + 1) = fo + q + 1 := by omega
                  rw [e1, e2]; exact t6⟩
                case measure => simp [intOf]; omega
            · have y2 : decide ((j : Int) < (lp : Int)) = true := decide_eq_true (by omega)
              have y3 : decide ((j : Int) < 100) = false := decide_eq_false (by omega)
              go_wp2_with fail
              refine (counts_any _ _ _ _ _ tj).mono ?_
              rintro e w6 ⟨rfl, f6⟩
              replace fj := fj.trans f6
              clear f6 tj
              have y5 : (fo + q - fo == q) = true := by simp; omega
              go_wp2_with fail
              all_goals go_ret
              all_goals exact ⟨ret_bool (by simp; omega), fj⟩
          · have y2 : decide ((j : Int) < (lp : Int)) = false := decide_eq_false (by omega)
            go_wp2_with fail
            refine (counts_any _ _ _ _ _ tj).mono ?_
            rintro e w6 ⟨rfl, f6⟩
            replace fj := fj.trans f6
            clear f6 tj
            have y5 : (fo + q - fo == q) = true := by simp; omega
            go_wp2_with fail
            all_goals go_ret
            all_goals exact ⟨ret_bool (by simp; omega), fj⟩
    · have u1 : decide ((k : Int) < (len : Int)) = false := decide_eq_false (by omega)
      have hlp := pk.fo0
      have hlm := pk.mi0
      have tk := pk.tlb
      have hbt := pk.new1
      clear pk
      obtain ⟨w4, rfl⟩ : ∃ w4, w4 = wr := ⟨wr, rfl⟩
      go_wp2_with fail
      refine (counts_any _ _ _ _ _ tk).mono ?_
      rintro e w5 ⟨rfl, f5⟩
      replace tk := tk.keep f5 (fun h => h)
      replace fk := fk.trans f5
      clear f5
      go_wp2_with fail
      go_loopw [11, 12] (fun n i wr => ∃ (j : Nat) (q : Int), j ≤ lp ∧ j ≤ 100 ∧ i = .int .i64 j ∧ n = .int .i64 q ∧ 0 ≤ q ∧ q ≤ j ∧ Fr none' w wr ∧ IsTlb wr bt T (fo + q) (mi + (j - q))) (fun _ i _ => 100 - (intOf i).toNat)
      case atStart => exact ⟨0, 0, by omega, by omega, rfl, rfl, by omega, by omega, fk, by simpa using tk⟩
      case round =>
        clear tk fk
        obtain ⟨j, q, hj1, hj2, rfl, rfl, hq1, hq2, fj, tj⟩ := hrel
        by_cases hjl : j < lp
        · by_cases hj3 : j < 100
          · obtain ⟨bp, op, n, rfl, hcell⟩ := HP.out j hjl
            have cp := cell_keep fj hcell (fun h => h)
            have y1 : 0 ≤ (j : Int) ∧ (j : Int) < (lp : Int) := by omega
            have y2 : decide ((j : Int) < (lp : Int)) = true := decide_eq_true (by omega)
            have y3 : decide ((j : Int) < 100) = true := decide_eq_true (by omega)
            go_wp2_with fail
            refine (find_any _ _ _ _ _ 1 0 n tj (by omega) (by omega)).mono ?_
            rintro e w6 ⟨rfl, f6, t6⟩
            replace f6 := fj.lone f6 hbt
            clear cp hcell fj tj
            have hmb := more_bounds (idx T 1 0 n 8)
            cases hb6 : decide (idx T 1 0 n 8 < 0) with
            | true =>
              rw [show moreF (idx T 1 0 n 8) = 0 by simp only [moreF, hb6, cond_true], show moreM (idx T 1 0 n 8) = 1 by simp only [moreM, hb6, cond_true]] at t6
              rw [show ansB (idx T 1 0 n 8) = false by simp only [ansB, hb6, Bool.not_true]]
              clear hb6 hmb
              go_wp2_with fail
              go_roundw
              case rel => exact ⟨j + 1, q, by omega, by omega, by go_num, rfl, hq1, by omega, f6, by
                have e1 : mi + (((j + 1 : Nat) : Int) - q) = mi + ((j : Int) - q) + 1 := by omega
                rw [e1]; simpa using t6⟩
              case measure => simp [intOf]; omega
            | false =>
              rw [show moreF (idx T 1 0 n 8) = 1 by simp only [moreF, hb6, cond_false], show moreM (idx T 1 0 n 8) = 0 by simp only [moreM, hb6, cond_false]] at t6
              rw [show ansB (idx T 1 0 n 8) = true by simp only [ansB, hb6, Bool.not_false]]
              clear hb6 hmb
              go_wp2_with fail
              go_roundw
              case rel => exact ⟨j + 1, q + 1, by omega, by omega, by go_num, by go_num, by omega, by omega, f6, by
                have e1 : mi + (((j + 1 : Nat) : Int) - (q + 1)) = mi + ((j : Int) - q) + 0 := by omega
                have e2 : fo + (q + 1) = fo + q + 1 := by omega
                rw [e1, e2]; exact t6⟩
              case measure => simp [intOf]; omega
          · have y2 : decide ((j : Int) < (lp : Int)) = true := decide_eq_true (by omega)
            have y3 : decide ((j : Int) < 100) = false := decide_eq_false (by omega)
            go_wp2_with fail
            refine (counts_any _ _ _ _ _ tj).mono ?_
            rintro e w6 ⟨rfl, f6⟩
            replace fj := fj.trans f6
            clear f6 tj
            have y5 : (fo + q - fo == q) = true := by simp; omega
            go_wp2_with fail
            all_goals go_ret
            all_goals exact ⟨ret_bool (by simp; omega), fj⟩
        · have y2 : decide ((j : Int) < (lp : Int)) = false := decide_eq_false (by omega)
          go_wp2_with fail
          refine (counts_any _ _ _ _ _ tj).mono ?_
          rintro e w6 ⟨rfl, f6⟩
          replace fj := fj.trans f6
          clear f6 tj
          have y5 : (fo + q - fo == q) = true := by simp; omega
          go_wp2_with fail
          all_goals go_ret
          all_goals exact ⟨ret_bool (by simp; omega), fj⟩

theorem countsl_any (a0 : Option Addr) (len cap : Nat) (a1 : Option Addr) (lp cp : Nat) (w : World) (hl : len ≤ 9223372036854775807) (ha : Acts w a0 len) (hlp : lp ≤ 9223372036854775807) (hp : Nums w a1 lp) :
    Calls Try.prog 8 #[.slice a0 len cap, .slice a1 lp cp] w fun e w' => e = .returned (.bool true) ∧ Below w.heap.size w w' :=
  (counts_row a0 len cap a1 lp cp w hl ha hlp hp).mono fun _ _ ⟨he, hf⟩ => ⟨he, hf.below (Nat.le_refl _) (fun _ h => h.elim)⟩

end Go.Proofs.Ytkmpmjjjklfalaa
