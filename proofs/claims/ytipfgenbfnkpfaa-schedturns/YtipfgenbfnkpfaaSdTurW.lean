/-
  The law SchedTurns walked. No statement is proved here.
-/
import Derived.Test.YtipfgenbfnkpfaaSdAwake
import Derived.Test.YtipfgenbfnkpfaaSdTurQ
import Derived.Deep.CutBlock
import Derived.Deep.CutRange
namespace Go.Proofs.Ytipfgenbfnkpfaa
open Go.RowKit

set_option maxRecDepth 100000 in
set_option maxHeartbeats 2000000 in
theorem turns_out (many priority ticks : Int) (w : World) (h : ¬ (1 ≤ many ∧ many ≤ 8 ∧ 0 ≤ priority ∧ priority ≤ 63 ∧ 0 ≤ ticks ∧ ticks ≤ 200)) : Calls Try.prog 6 #[.int .i64 many, .int .i64 priority, .int .i64 ticks] w fun e w' => e = .returned (.bool true) ∧ Fr none' w w' := by
  by_cases h0 : many < 1
  · have g0 : decide (many < 1) = true := decide_eq_true h0
    clear h
    go_enter Try.func6, Try.ntmps6
    go_wp2_with (go_at_call 9; refine (awake_any _).mono ?_; rintro e w1 ⟨rfl, f1⟩)
    go_ret
    exact ⟨rfl, f1⟩
  have g0 : decide (many < 1) = false := decide_eq_false h0
  by_cases h1 : 8 < many
  · have g1 : decide (8 < many) = true := decide_eq_true h1
    clear h
    go_enter Try.func6, Try.ntmps6
    go_wp2_with (go_at_call 9; refine (awake_any _).mono ?_; rintro e w1 ⟨rfl, f1⟩)
    go_ret
    exact ⟨rfl, f1⟩
  have g1 : decide (8 < many) = false := decide_eq_false h1
  by_cases h2 : priority < 0
  · have g2 : decide (priority < 0) = true := decide_eq_true h2
    clear h
    go_enter Try.func6, Try.ntmps6
    go_wp2_with (go_at_call 9; refine (awake_any _).mono ?_; rintro e w1 ⟨rfl, f1⟩)
    go_ret
    exact ⟨rfl, f1⟩
  have g2 : decide (priority < 0) = false := decide_eq_false h2
  by_cases h3 : 63 < priority
  · have g3 : decide (63 < priority) = true := decide_eq_true h3
    clear h
    go_enter Try.func6, Try.ntmps6
    go_wp2_with (go_at_call 9; refine (awake_any _).mono ?_; rintro e w1 ⟨rfl, f1⟩)
    go_ret
    exact ⟨rfl, f1⟩
  have g3 : decide (63 < priority) = false := decide_eq_false h3
  by_cases h4 : ticks < 0
  · have g4 : decide (ticks < 0) = true := decide_eq_true h4
    clear h
    go_enter Try.func6, Try.ntmps6
    go_wp2_with (go_at_call 9; refine (awake_any _).mono ?_; rintro e w1 ⟨rfl, f1⟩)
    go_ret
    exact ⟨rfl, f1⟩
  have g4 : decide (ticks < 0) = false := decide_eq_false h4
  by_cases h5 : 200 < ticks
  · have g5 : decide (200 < ticks) = true := decide_eq_true h5
    clear h
    go_enter Try.func6, Try.ntmps6
    go_wp2_with (go_at_call 9; refine (awake_any _).mono ?_; rintro e w1 ⟨rfl, f1⟩)
    go_ret
    exact ⟨rfl, f1⟩
  have g5 : decide (200 < ticks) = false := decide_eq_false h5
  exact absurd (by omega) h

set_option maxRecDepth 100000 in
set_option maxHeartbeats 4000000 in
theorem turns_in (m : Nat) (p : Int) (n : Nat) (w : World) (h : 1 ≤ m ∧ m ≤ 8 ∧ n ≤ 200 ∧ 0 ≤ p ∧ p ≤ 63) : Calls Try.prog 6 #[.int .i64 (m : Int), .int .i64 p, .int .i64 (n : Int)] w fun e w' => e = .returned (.bool true) ∧ Fr none' w w' := by
  have g0 : decide ((m : Int) < 1) = false := decide_eq_false (by omega)
  have g1 : decide (8 < (m : Int)) = false := decide_eq_false (by omega)
  have g2 : decide ((n : Int) < 0) = false := decide_eq_false (by omega)
  have g3 : decide (200 < (n : Int)) = false := decide_eq_false (by omega)
  have g4 : decide (p < 0) = false := decide_eq_false (by omega)
  have g5 : decide (63 < p) = false := decide_eq_false (by omega)
  go_enter Try.func6, Try.ntmps6
  go_wp2_with fail
  refine (awake_any _).mono ?_
  rintro e w1 ⟨rfl, f1⟩
  have HF : Hid (Fr none' w w1) := f1
  clear f1
  go_wp2_with fail
  refine (xnew w1 _ [] (tni_nil w1) rfl).mono ?_
  rintro e w2 ⟨b, rfl, P⟩
  have HP : Hid (∃ S, AddA p 0 S ∧ Sx w1 w2 b S (fun _ => False)) := ⟨one0, addA_zero p, P⟩
  clear P
  go_wp2_with fail
  go_loopw [10] (fun i wr => ∃ k : Nat, k ≤ m ∧ i = .int .i64 (k : Int) ∧ Hid (∃ S, AddA p k S ∧ Sx w1 wr b S (fun _ => False))) (fun i _ => m - (intOf i).toNat)
  case atStart => exact ⟨0, by omega, rfl, HP⟩
  case round =>
    clear HP
    obtain ⟨k, hk, rfl, HI⟩ := hrel
    obtain ⟨S, hA, P⟩ := HI.out
    clear HI
    by_cases hlt : k < m
    · have uk : decide ((k : Int) < (m : Int)) = true := decide_eq_true (by omega)
      have ik : (k : Int) < (m : Int) := by omega
      have ik8 : (k : Int) ≤ 8 := by omega
      have hw : wrap64 (10 + (k : Int)) = 10 + (k : Int) := by unfold wrap64; omega
      obtain ⟨e1, e2, e3⟩ := hA.step (by omega) (by omega)
      have A1 := xadd P (10 + (k : Int)) p 0 (i64_of (by omega) (by omega))
      rw [e1] at A1
      clear P hA e1
      go_wp2_with fail
      refine A1.mono ?_
      clear A1
      rintro e wb ⟨rfl, Q, _⟩
      have A2 := xwake Q (10 + (k : Int)) (i64_of (by omega) (by omega))
      rw [e2] at A2
      clear Q e2
      go_wp2_with fail
      refine A2.mono ?_
      clear A2
      rintro e wc ⟨rfl, Q, _⟩
      have HQ : Hid (∃ S, AddA p (k + 1) S ∧ Sx w1 wc b S (fun _ => False)) := ⟨_, e3, Q⟩
      clear Q e3 hw
      go_wp2_with fail
      go_roundw
      case rel => exact ⟨k + 1, by omega, by go_num, HQ⟩
      case measure => simp [intOf]; omega
    · have uk : decide ((k : Int) < (m : Int)) = false := decide_eq_false (by omega)
      have ik : ¬ (k : Int) < (m : Int) := by omega
      have HM : Hid (k = m) := by show k = m; omega
      have hm := HM.out
      rw [hm] at hA
      have HQ : Hid (∃ S, TuB p m 0 S ∧ Sx w1 wr b S (fun _ => False)) := ⟨S, hA.turns h.1, P⟩
      clear P hA hm
      obtain ⟨wb, rfl⟩ : ∃ wb, wb = wr := ⟨wr, rfl⟩
      have hz : ((m : Int) == 0) = false := by simp; omega
      go_wp2_with fail
      go_loopw [13] (fun i wr => ∃ j : Nat, j ≤ n + 1 ∧ i = .int .i64 (j : Int) ∧ Hid (∃ S, TuB p m j S ∧ Sx w1 wr b S (fun _ => False))) (fun i _ => n + 1 - (intOf i).toNat)
      case atStart => exact ⟨0, by omega, rfl, HQ⟩
      case round =>
        clear HQ
        obtain ⟨j, hj, rfl, HI⟩ := hrel
        obtain ⟨S, d1, P⟩ := HI.out
        clear HI
        by_cases hjn : j ≤ n
        · have ujn : decide ((j : Int) ≤ (n : Int)) = true := decide_eq_true (by omega)
          have ij : (j : Int) ≤ (n : Int) := by omega
          have ij1 : (j : Int) ≤ 200 := by omega
          have d2 := d1.settle P.ok h.1 (by omega)
          have d3 := d2.tick h.1 (by omega)
          have hc := d2.c
          have X1 := xsettle P
          clear P d1 d2
          go_wp2_with fail
          refine X1.mono ?_
          clear X1
          rintro e wc ⟨v, rfl, P, _⟩
          have X2 := xcur P
          rw [hc] at X2
          clear hc
          go_wp2_with fail
          refine X2.mono ?_
          clear X2
          rintro e wd ⟨rfl, rfl⟩
          have X3 := xtick P
          clear P
          obtain ⟨H1, hH⟩ : ∃ H1, H1 = hdT m (j / 4) := ⟨_, rfl⟩
          have hlt := Nat.mod_lt (j / 4) (by omega : m > 0)
          have e4 : (j : Int) / 4 % (m : Int) = ((j / 4 % m : Nat) : Int) := by rw [Int.natCast_emod, Int.natCast_ediv]; rfl
          have hv : 10 + (j : Int) / 4 % (m : Int) = H1 := by
            rw [hH, e4]
            rfl
          have hb : 0 ≤ (j : Int) / 4 % (m : Int) ∧ (j : Int) / 4 % (m : Int) ≤ 8 := by rw [e4]; omega
          have hw : wrap64 H1 = H1 := by rw [← hv]; unfold wrap64; omega
          have hw1 : IntKind.i64.wrap ((j : Int) / 4) = (j : Int) / 4 := by rw [IntKind.wrap_i64]; omega
          have hs : (H1 == H1) = true := by simp
          rw [← hH]
          clear hH e4 hlt hb
          go_wp2_with fail
          refine X3.mono ?_
          clear X3
          rintro e wf ⟨v, rfl, P, _⟩
          have HQ : Hid (∃ S, TuB p m (j + 1) S ∧ Sx w1 wf b S (fun _ => False)) := ⟨_, d3, P⟩
          clear P d3
          go_wp2_with fail
          go_roundw
          case rel => exact ⟨j + 1, by omega, by go_num, HQ⟩
          case measure => simp [intOf]; omega
        · have ujn : decide ((j : Int) ≤ (n : Int)) = false := decide_eq_false (by omega)
          have ij : ¬ (j : Int) ≤ (n : Int) := by omega
          have HE : Hid (Fr none' w wr) := HF.out.trans P.old
          clear P d1
          go_wp2_with fail
          go_ret
          exact ⟨rfl, HE.out⟩

theorem turns_any (many priority ticks : Int) (w : World) : Calls Try.prog 6 #[.int .i64 many, .int .i64 priority, .int .i64 ticks] w fun e w' => e = .returned (.bool true) ∧ Below w.heap.size w w' := by
  have H : Calls Try.prog 6 #[.int .i64 many, .int .i64 priority, .int .i64 ticks] w fun e w' => e = .returned (.bool true) ∧ Fr none' w w' := by
    by_cases h : 1 ≤ many ∧ many ≤ 8 ∧ 0 ≤ priority ∧ priority ≤ 63 ∧ 0 ≤ ticks ∧ ticks ≤ 200
    · obtain ⟨n_many, rfl⟩ : ∃ n : Nat, many = (n : Int) := ⟨many.toNat, by omega⟩
      obtain ⟨n_ticks, rfl⟩ : ∃ n : Nat, ticks = (n : Int) := ⟨ticks.toNat, by omega⟩
      exact turns_in n_many priority n_ticks w (by omega)
    · exact turns_out many priority ticks w (by omega)
  exact H.mono fun _ _ ⟨he, hf⟩ => ⟨he, hf.below (Nat.le_refl _) (fun _ h => h.elim)⟩

end Go.Proofs.Ytipfgenbfnkpfaa
