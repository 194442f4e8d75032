/-
  The law SchedDomains walked. No statement is proved here.
-/
import Derived.Test.YtipfgenbfnkpfaaSdAwake
import Derived.Test.YtipfgenbfnkpfaaSdLawP
import Derived.Deep.CutBlock
import Derived.Deep.CutRange
namespace Go.Proofs.Ytipfgenbfnkpfaa
open Go.RowKit

set_option maxRecDepth 100000 in
set_option maxHeartbeats 2000000 in
theorem doms_out (first second ticks more : Int) (w : World) (h : ¬ (1 ≤ first ∧ first ≤ 20 ∧ 1 ≤ second ∧ second ≤ 20 ∧ 0 ≤ ticks ∧ ticks ≤ 200 ∧ 0 ≤ more ∧ more ≤ 6)) : Calls Try.prog 7 #[.int .i64 first, .int .i64 second, .int .i64 ticks, .int .i64 more] w fun e w' => e = .returned (.bool true) ∧ Fr none' w w' := by
  by_cases h0 : first < 1
  · have g0 : decide (first < 1) = true := decide_eq_true h0
    clear h
    go_enter Try.func7, Try.ntmps7
    go_wp2_with (go_at_call 9; refine (awake_any _).mono ?_; rintro e w1 ⟨rfl, f1⟩)
    go_ret
    exact ⟨rfl, f1⟩
  have g0 : decide (first < 1) = false := decide_eq_false h0
  by_cases h1 : 20 < first
  · have g1 : decide (20 < first) = true := decide_eq_true h1
    clear h
    go_enter Try.func7, Try.ntmps7
    go_wp2_with (go_at_call 9; refine (awake_any _).mono ?_; rintro e w1 ⟨rfl, f1⟩)
    go_ret
    exact ⟨rfl, f1⟩
  have g1 : decide (20 < first) = false := decide_eq_false h1
  by_cases h2 : second < 1
  · have g2 : decide (second < 1) = true := decide_eq_true h2
    clear h
    go_enter Try.func7, Try.ntmps7
    go_wp2_with (go_at_call 9; refine (awake_any _).mono ?_; rintro e w1 ⟨rfl, f1⟩)
    go_ret
    exact ⟨rfl, f1⟩
  have g2 : decide (second < 1) = false := decide_eq_false h2
  by_cases h3 : 20 < second
  · have g3 : decide (20 < second) = true := decide_eq_true h3
    clear h
    go_enter Try.func7, Try.ntmps7
    go_wp2_with (go_at_call 9; refine (awake_any _).mono ?_; rintro e w1 ⟨rfl, f1⟩)
    go_ret
    exact ⟨rfl, f1⟩
  have g3 : decide (20 < second) = false := decide_eq_false h3
  by_cases h4 : ticks < 0
  · have g4 : decide (ticks < 0) = true := decide_eq_true h4
    clear h
    go_enter Try.func7, Try.ntmps7
    go_wp2_with (go_at_call 9; refine (awake_any _).mono ?_; rintro e w1 ⟨rfl, f1⟩)
    go_ret
    exact ⟨rfl, f1⟩
  have g4 : decide (ticks < 0) = false := decide_eq_false h4
  by_cases h5 : 200 < ticks
  · have g5 : decide (200 < ticks) = true := decide_eq_true h5
    clear h
    go_enter Try.func7, Try.ntmps7
    go_wp2_with (go_at_call 9; refine (awake_any _).mono ?_; rintro e w1 ⟨rfl, f1⟩)
    go_ret
    exact ⟨rfl, f1⟩
  have g5 : decide (200 < ticks) = false := decide_eq_false h5
  by_cases h6 : more < 0
  · have g6 : decide (more < 0) = true := decide_eq_true h6
    clear h
    go_enter Try.func7, Try.ntmps7
    go_wp2_with (go_at_call 9; refine (awake_any _).mono ?_; rintro e w1 ⟨rfl, f1⟩)
    go_ret
    exact ⟨rfl, f1⟩
  have g6 : decide (more < 0) = false := decide_eq_false h6
  by_cases h7 : 6 < more
  · have g7 : decide (6 < more) = true := decide_eq_true h7
    clear h
    go_enter Try.func7, Try.ntmps7
    go_wp2_with (go_at_call 9; refine (awake_any _).mono ?_; rintro e w1 ⟨rfl, f1⟩)
    go_ret
    exact ⟨rfl, f1⟩
  have g7 : decide (6 < more) = false := decide_eq_false h7
  exact absurd (by omega) h

set_option maxRecDepth 100000 in
set_option maxHeartbeats 4000000 in
theorem doms_in (f s : Int) (n m : Nat) (w : World) (h : 1 ≤ f ∧ f ≤ 20 ∧ 1 ≤ s ∧ s ≤ 20 ∧ n ≤ 200 ∧ m ≤ 6) : Calls Try.prog 7 #[.int .i64 f, .int .i64 s, .int .i64 (n : Int), .int .i64 (m : Int)] w fun e w' => e = .returned (.bool true) ∧ Fr none' w w' := by
  have g0 : decide (f < 1) = false := decide_eq_false (by omega)
  have g1 : decide (20 < f) = false := decide_eq_false (by omega)
  have g2 : decide (s < 1) = false := decide_eq_false (by omega)
  have g3 : decide (20 < s) = false := decide_eq_false (by omega)
  have g4 : decide ((n : Int) < 0) = false := decide_eq_false (by omega)
  have g5 : decide (200 < (n : Int)) = false := decide_eq_false (by omega)
  have g6 : decide ((m : Int) < 0) = false := decide_eq_false (by omega)
  have g7 : decide (6 < (m : Int)) = false := decide_eq_false (by omega)
  go_enter Try.func7, Try.ntmps7
  go_wp2_with fail
  refine (awake_any _).mono ?_
  rintro e w1 ⟨rfl, f1⟩
  have HF : Hid (Fr none' w w1) := f1
  have r1 := row_alloc w1 #[.int .i64 0, .int .i64 f, .int .i64 1, .int .i64 s] 33
  have f2 := (Fr.refl none' w1).alloc (.cells #[.int .i64 0, .int .i64 f, .int .i64 1, .int .i64 s] 33)
  have N2 := xnew _ _ _ (tni_two r1) (by
    show newB [⟨0, f⟩, ⟨1, s⟩] = true
    unfold newB okNb
    simp
    omega)
  have HF2 : Hid (Fr none' w (w1.alloc (.cells #[.int .i64 0, .int .i64 f, .int .i64 1, .int .i64 s] 33))) := f1.trans f2
  clear r1 f2 f1 HF
  go_wp2_with fail
  refine N2.mono ?_
  clear N2
  generalize w1.alloc (.cells #[.int .i64 0, .int .i64 f, .int .i64 1, .int .i64 s] 33) = wa at *
  rintro e w2 ⟨b, rfl, P⟩
  rw [show newSd [⟨0, f⟩, ⟨1, s⟩] = ⟨[], fun _ => [], -1, [⟨0, f⟩, ⟨1, s⟩], 0, f⟩ from rfl] at P
  go_wp2_with fail
  refine (xadd P 0 3 0 (i64_of (by omega) (by omega))).mono ?_
  rintro e w3 ⟨rfl, Q, _⟩
  obtain ⟨e1, e2, _⟩ := aw_one (S := (⟨[], fun _ => [], -1, [⟨0, f⟩, ⟨1, s⟩], 0, f⟩ : Sd)) 0 3 0 (by omega) (by omega) (by omega) rfl
  have e3 := domA_one (f := f) (s := s)
  rw [e1]
  clear P
  go_wp2_with fail
  refine (xwake Q 0 (i64_of (by omega) (by omega))).mono ?_
  rintro e w4 ⟨rfl, P, _⟩
  rw [e2]
  clear Q e1 e2
  have HP : Hid (∃ S, DomA f s 0 S ∧ Sx wa w4 b S (fun _ => False)) := ⟨_, e3, P⟩
  clear P e3
  go_wp2_with fail
  go_loopw [14] (fun i wr => ∃ k : Nat, k ≤ m + 1 ∧ i = .int .i64 (k : Int) ∧ Hid (∃ S, DomA f s k S ∧ Sx wa wr b S (fun _ => False))) (fun i _ => m + 1 - (intOf i).toNat)
  case atStart => exact ⟨0, by omega, rfl, HP⟩
  case round =>
    clear HP
    obtain ⟨k, hk, rfl, HI⟩ := hrel
    obtain ⟨S, hA, P⟩ := HI.out
    clear HI
    by_cases hlt : k ≤ m
    · have uk : decide ((k : Int) ≤ (m : Int)) = true := decide_eq_true (by omega)
      have ik : (k : Int) ≤ (m : Int) := by omega
      have hw : wrap64 (1 + (k : Int)) = 1 + (k : Int) := by unfold wrap64; omega
      obtain ⟨e1, e2, e3⟩ := hA.step (by omega)
      have A1 := xadd P (1 + (k : Int)) 60 1 (i64_of (by omega) (by omega))
      rw [e1] at A1
      clear P hA e1
      go_wp2_with fail
      refine A1.mono ?_
      clear A1
      rintro e wb ⟨rfl, Q, _⟩
      have A2 := xwake Q (1 + (k : Int)) (i64_of (by omega) (by omega))
      rw [e2] at A2
      clear Q e2
      go_wp2_with fail
      refine A2.mono ?_
      clear A2
      rintro e wc ⟨rfl, Q, _⟩
      have HQ : Hid (∃ S, DomA f s (k + 1) S ∧ Sx wa wc b S (fun _ => False)) := ⟨_, e3, Q⟩
      clear Q e3 hw
      go_wp2_with fail
      go_roundw
      case rel => exact ⟨k + 1, by omega, by go_num, HQ⟩
      case measure => simp [intOf]; omega
    · have uk : decide ((k : Int) ≤ (m : Int)) = false := decide_eq_false (by omega)
      have ik : ¬ (k : Int) ≤ (m : Int) := by omega
      obtain ⟨d1, d2⟩ := hA.done (by omega) h.1
      have HQ : Hid (∃ S, DomL S ∧ DomT f s 0 S ∧ Sx wa wr b S (fun _ => False)) := ⟨S, d1, d2, P⟩
      clear d1 d2 P hA
      obtain ⟨wd, rfl⟩ : ∃ wd, wd = wr := ⟨wr, rfl⟩
      go_wp2_with fail
      go_loopw [17] (fun i wr => ∃ j : Nat, j ≤ n ∧ i = .int .i64 (j : Int) ∧ Hid (∃ S, DomL S ∧ DomT f s j S ∧ Sx wa wr b S (fun _ => False))) (fun i _ => n - (intOf i).toNat)
      case atStart => exact ⟨0, by omega, rfl, HQ⟩
      case round =>
        clear HQ
        obtain ⟨j, hj, rfl, HI⟩ := hrel
        obtain ⟨S, d1, d2, P⟩ := HI.out
        clear HI
        by_cases hjn : j < n
        · have ujn : decide ((j : Int) < (n : Int)) = true := decide_eq_true (by omega)
          have ij : (j : Int) < (n : Int) := by omega
          obtain ⟨c0, c1⟩ := dom_cur P.ok d1 d2
          have d1' := d1.step
          have d2' := d2.step h.1 h.2.2.1
          have X1 := xsettle P
          clear P d1 d2
          go_wp2_with fail
          refine X1.mono ?_
          clear X1
          rintro e wb ⟨v, rfl, P, _⟩
          have X2 := xcur P
          go_wp2_with fail
          refine X2.mono ?_
          clear X2
          rintro e wc ⟨rfl, rfl⟩
          have X3 := xtick P
          have hw : wrap64 (f + s) = f + s := by unfold wrap64; omega
          have hz : ((f + s : Int) == 0) = false := by simp; omega
          have hcl : decide ((setS S).c < 0) = false := decide_eq_false (by omega)
          clear P
          generalize hD : decide ((j : Int) % (f + s) < f) = D at *
          generalize (setS S).c = cc at *
          go_wp2_with fail
          refine X3.mono ?_
          clear X3
          rintro e wf ⟨v, rfl, P, _⟩
          have HQ : Hid (∃ S, DomL S ∧ DomT f s (j + 1) S ∧ Sx wa wf b S (fun _ => False)) := ⟨_, d1', d2', P⟩
          clear P d1' d2'
          go_wp2_with fail
          go_roundw
          case rel => exact ⟨j + 1, by omega, by go_num, HQ⟩
          case measure => simp [intOf]; omega
        · have ujn : decide ((j : Int) < (n : Int)) = false := decide_eq_false (by omega)
          have ij : ¬ (j : Int) < (n : Int) := by omega
          have HE : Hid (Fr none' w wr) := HF2.out.trans P.old
          clear P d1 d2
          go_wp2_with fail
          go_ret
          exact ⟨rfl, HE.out⟩

theorem doms_any (first second ticks more : Int) (w : World) : Calls Try.prog 7 #[.int .i64 first, .int .i64 second, .int .i64 ticks, .int .i64 more] w fun e w' => e = .returned (.bool true) ∧ Below w.heap.size w w' := by
  have H : Calls Try.prog 7 #[.int .i64 first, .int .i64 second, .int .i64 ticks, .int .i64 more] w fun e w' => e = .returned (.bool true) ∧ Fr none' w w' := by
    by_cases h : 1 ≤ first ∧ first ≤ 20 ∧ 1 ≤ second ∧ second ≤ 20 ∧ 0 ≤ ticks ∧ ticks ≤ 200 ∧ 0 ≤ more ∧ more ≤ 6
    · obtain ⟨n_ticks, rfl⟩ : ∃ n : Nat, ticks = (n : Int) := ⟨ticks.toNat, by omega⟩
      obtain ⟨n_more, rfl⟩ : ∃ n : Nat, more = (n : Int) := ⟨more.toNat, by omega⟩
      exact doms_in first second n_ticks n_more w (by omega)
    · exact doms_out first second ticks more w (by omega)
  exact H.mono fun _ _ ⟨he, hf⟩ => ⟨he, hf.below (Nat.le_refl _) (fun _ h => h.elim)⟩

end Go.Proofs.Ytipfgenbfnkpfaa
