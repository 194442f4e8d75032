/-
  GicPlays over the translation: whatever acts came in, the law returns true, and nothing old turns. No statement is proved here.
-/
import Derived.Test.YtcenojdcmmflaaaGicActs
namespace Go.Proofs.Ytcenojdcmmflaaa
open Go.RowKit

set_option maxRecDepth 100000 in
set_option maxHeartbeats 4000000 in
theorem plays_row (a0 : Option Addr) (len cap : Nat) (w : World) (hl : len ≤ 9223372036854775807) (ha : Acts w a0 len) :
    Calls Try.prog 3 #[.slice a0 len cap] w fun e w' => e = .returned (.bool true) ∧ Fr none' w w' := by
  have HA : Hid (Acts w a0 len) := ha
  clear ha
  go_enter Try.func3, Try.ntmps3
  go_wp2_with fail
  refine (awake_any _).mono ?_
  rintro e w1 ⟨rfl, f1⟩
  go_wp2_with fail
  refine (new_any _).mono ?_
  rintro e w2 ⟨bt, rfl, hb, f2, t2⟩
  replace f2 := f1.trans f2
  replace hb := Nat.le_trans f1.size hb
  go_wp2_with fail
  refine (rnew_any _).mono ?_
  rintro e w3 ⟨br, rfl, hr, f3, t3⟩
  have p2 : Pair w3 w.heap.size bt br (fun _ => zi) 256 := ⟨hb, Nat.le_trans f2.size hr, Nat.ne_of_lt (Nat.lt_of_lt_of_le t2.lt hr), t2.keep f3 (fun h => h), t3, good_zero⟩
  replace f2 := f2.trans f3
  clear f1 t2 t3 f3 hb hr
  go_wp2_with fail
  go_loopw [6] (fun i wr => ∃ (k : Nat) (T : Nat → Li) (m : Int), k ≤ len ∧ k ≤ 150 ∧ i = .int .i64 k ∧ Fr none' w wr ∧ Pair wr w.heap.size bt br T m) (fun i _ => 150 - (intOf i).toNat)
  case atStart => exact ⟨0, fun _ => zi, 256, by omega, by omega, rfl, f2, p2⟩
  case round =>
    clear f2 p2
    obtain ⟨k, T, m, hk1, hk2, rfl, fk, pk⟩ := hrel
    by_cases hkl : k < len
    · by_cases hk3 : k < 150
      · obtain ⟨b, o, d, n, x, on, rfl, hact⟩ := HA.out k hkl
        obtain ⟨c0, c1, c2, c3⟩ := hact.keep fk (fun h => h)
        have i1 : 0 ≤ (k : Int) ∧ (k : Int) < (len : Int) := by omega
        have u1 : decide ((k : Int) < (len : Int)) = true := decide_eq_true (by omega)
        have u2 : decide ((k : Int) < 150) = true := decide_eq_true (by omega)
        go_wp2_with fail
        refine (does_any _ _ _ _ _ _ pk d n x on).mono ?_
        rintro e w5 ⟨rfl, f5, p5⟩
        replace f5 := fk.pair f5 pk.new1 pk.new2
        clear c0 c1 c2 c3 hact fk pk
        go_wp2_with fail
        refine (same_any _ _ _ _ _ _ p5).mono ?_
        rintro e w6 ⟨rfl, f6⟩
        replace p5 := p5.keep0 f6
        replace f5 := f5.trans f6
        clear f6
        go_wp2_with fail
        go_roundw
        case rel => exact ⟨k + 1, stepT d n x on T m, stepM d x m, by omega, by omega, by go_num, f5, p5⟩
        case measure => simp [intOf]; omega
      · have u1 : decide ((k : Int) < (len : Int)) = true := decide_eq_true (by omega)
        have u2 : decide ((k : Int) < 150) = false := decide_eq_false (by omega)
        go_wp2_with fail
        go_ret
        exact ⟨rfl, fk⟩
    · have u1 : decide ((k : Int) < (len : Int)) = false := decide_eq_false (by omega)
      go_wp2_with fail
      go_ret
      exact ⟨rfl, fk⟩

theorem plays_any (a0 : Option Addr) (len cap : Nat) (w : World) (hl : len ≤ 9223372036854775807) (ha : Acts w a0 len) :
    Calls Try.prog 3 #[.slice a0 len cap] w fun e w' => e = .returned (.bool true) ∧ Below w.heap.size w w' :=
  (plays_row a0 len cap w hl ha).mono fun _ _ ⟨he, hf⟩ => ⟨he, hf.below (Nat.le_refl _) (fun _ h => h.elim)⟩

end Go.Proofs.Ytcenojdcmmflaaa
