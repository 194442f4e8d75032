/-
  The law SchedDisplaces walked. No statement is proved here.
-/
import Derived.Test.YtipfgenbfnkpfaaSdAwake
import Derived.Test.YtipfgenbfnkpfaaSdLawP
import Derived.Deep.CutBlock
import Derived.Deep.CutRange
namespace Go.Proofs.Ytipfgenbfnkpfaa
open Go.RowKit

set_option maxRecDepth 100000 in
set_option maxHeartbeats 2000000 in
theorem disp_out (many ticks priority : Int) (w : World) (h : ¬ (1 ≤ many ∧ many ≤ 8 ∧ 0 ≤ ticks ∧ ticks ≤ 100 ∧ 0 ≤ priority ∧ priority ≤ 62)) : Calls Try.prog 8 #[.int .i64 many, .int .i64 ticks, .int .i64 priority] w fun e w' => e = .returned (.bool true) ∧ Fr none' w w' := by
  by_cases h0 : many < 1
  · have g0 : decide (many < 1) = true := decide_eq_true h0
    clear h
    go_enter Try.func8, Try.ntmps8
    go_wp2_with (go_at_call 9; refine (awake_any _).mono ?_; rintro e w1 ⟨rfl, f1⟩)
    go_ret
    exact ⟨rfl, f1⟩
  have g0 : decide (many < 1) = false := decide_eq_false h0
  by_cases h1 : 8 < many
  · have g1 : decide (8 < many) = true := decide_eq_true h1
    clear h
    go_enter Try.func8, Try.ntmps8
    go_wp2_with (go_at_call 9; refine (awake_any _).mono ?_; rintro e w1 ⟨rfl, f1⟩)
    go_ret
    exact ⟨rfl, f1⟩
  have g1 : decide (8 < many) = false := decide_eq_false h1
  by_cases h2 : ticks < 0
  · have g2 : decide (ticks < 0) = true := decide_eq_true h2
    clear h
    go_enter Try.func8, Try.ntmps8
    go_wp2_with (go_at_call 9; refine (awake_any _).mono ?_; rintro e w1 ⟨rfl, f1⟩)
    go_ret
    exact ⟨rfl, f1⟩
  have g2 : decide (ticks < 0) = false := decide_eq_false h2
  by_cases h3 : 100 < ticks
  · have g3 : decide (100 < ticks) = true := decide_eq_true h3
    clear h
    go_enter Try.func8, Try.ntmps8
    go_wp2_with (go_at_call 9; refine (awake_any _).mono ?_; rintro e w1 ⟨rfl, f1⟩)
    go_ret
    exact ⟨rfl, f1⟩
  have g3 : decide (100 < ticks) = false := decide_eq_false h3
  by_cases h4 : priority < 0
  · have g4 : decide (priority < 0) = true := decide_eq_true h4
    clear h
    go_enter Try.func8, Try.ntmps8
    go_wp2_with (go_at_call 9; refine (awake_any _).mono ?_; rintro e w1 ⟨rfl, f1⟩)
    go_ret
    exact ⟨rfl, f1⟩
  have g4 : decide (priority < 0) = false := decide_eq_false h4
  by_cases h5 : 62 < priority
  · have g5 : decide (62 < priority) = true := decide_eq_true h5
    clear h
    go_enter Try.func8, Try.ntmps8
    go_wp2_with (go_at_call 9; refine (awake_any _).mono ?_; rintro e w1 ⟨rfl, f1⟩)
    go_ret
    exact ⟨rfl, f1⟩
  have g5 : decide (62 < priority) = false := decide_eq_false h5
  exact absurd (by omega) h

set_option maxRecDepth 100000 in
set_option maxHeartbeats 4000000 in
theorem disp_in (m n : Nat) (p : Int) (w : World) (h : 1 ≤ m ∧ m ≤ 8 ∧ n ≤ 100 ∧ 0 ≤ p ∧ p ≤ 62) : Calls Try.prog 8 #[.int .i64 (m : Int), .int .i64 (n : Int), .int .i64 p] w fun e w' => e = .returned (.bool true) ∧ Fr none' w w' := by
  have g0 : decide ((m : Int) < 1) = false := decide_eq_false (by omega)
  have g1 : decide (8 < (m : Int)) = false := decide_eq_false (by omega)
  have g2 : decide ((n : Int) < 0) = false := decide_eq_false (by omega)
  have g3 : decide (100 < (n : Int)) = false := decide_eq_false (by omega)
  have g4 : decide (p < 0) = false := decide_eq_false (by omega)
  have g5 : decide (62 < p) = false := decide_eq_false (by omega)
  go_enter Try.func8, Try.ntmps8
  go_wp2_with fail
  refine (awake_any _).mono ?_
  rintro e w1 ⟨rfl, f1⟩
  have HF : Hid (Fr none' w w1) := f1
  clear f1
  go_wp2_with fail
  refine (xnew w1 _ [] (tni_nil w1) rfl).mono ?_
  rintro e w2 ⟨b, rfl, P⟩
  have HP : Hid (∃ S, AddA p 0 S ∧ Sx w1 w2 b S (fun _ => False)) := ⟨one0, addA_zero p, P⟩
  clear P
  go_wp2_with fail
  go_loopw [10] (fun i wr => ∃ k : Nat, k ≤ m ∧ i = .int .i64 (k : Int) ∧ Hid (∃ S, AddA p k S ∧ Sx w1 wr b S (fun _ => False))) (fun i _ => m - (intOf i).toNat)
  case atStart => exact ⟨0, by omega, rfl, HP⟩
  case round =>
    clear HP
    obtain ⟨k, hk, rfl, HI⟩ := hrel
    obtain ⟨S, hA, P⟩ := HI.out
    clear HI
    by_cases hlt : k < m
    · have uk : decide ((k : Int) < (m : Int)) = true := decide_eq_true (by omega)
      have ik : (k : Int) < (m : Int) := by omega
      have ik8 : (k : Int) ≤ 8 := by omega
      have hw : wrap64 (10 + (k : Int)) = 10 + (k : Int) := by unfold wrap64; omega
      obtain ⟨e1, e2, e3⟩ := hA.step (by omega) (by omega)
      have A1 := xadd P (10 + (k : Int)) p 0 (i64_of (by omega) (by omega))
      rw [e1] at A1
      clear P hA e1
      go_wp2_with fail
      refine A1.mono ?_
      clear A1
      rintro e wb ⟨rfl, Q, _⟩
      have A2 := xwake Q (10 + (k : Int)) (i64_of (by omega) (by omega))
      rw [e2] at A2
      clear Q e2
      go_wp2_with fail
      refine A2.mono ?_
      clear A2
      rintro e wc ⟨rfl, Q, _⟩
      have HQ : Hid (∃ S, AddA p (k + 1) S ∧ Sx w1 wc b S (fun _ => False)) := ⟨_, e3, Q⟩
      clear Q e3 hw
      go_wp2_with fail
      go_roundw
      case rel => exact ⟨k + 1, by omega, by go_num, HQ⟩
      case measure => simp [intOf]; omega
    · have uk : decide ((k : Int) < (m : Int)) = false := decide_eq_false (by omega)
      have ik : ¬ (k : Int) < (m : Int) := by omega
      have HM : Hid (k = m) := by show k = m; omega
      have hm := HM.out
      have hwp : wrap64 (p + 1) = p + 1 := by unfold wrap64; omega
      have ip : p ≤ 62 ∧ 0 ≤ p := by omega
      obtain ⟨e1, e2, e3⟩ := hA.dis (by omega) (by omega)
      have A1 := xadd P 50 (p + 1) 0 (i64_of (by omega) (by omega))
      rw [e1] at A1
      rw [hm] at e2
      clear P hA e1 hm
      go_wp2_with fail
      refine A1.mono ?_
      clear A1
      rintro e wb ⟨rfl, Q, _⟩
      have HQ : Hid (∃ S, Dis p m false S ∧ OneT 0 S ∧ Sx w1 wb b S (fun _ => False)) := ⟨_, e2, e3, Q⟩
      clear Q e2 e3
      go_wp2_with fail
      go_loopw [14] (fun i wr => ∃ j : Nat, j ≤ n ∧ i = .int .i64 (j : Int) ∧ Hid (∃ S, Dis p m false S ∧ OneT j S ∧ Sx w1 wr b S (fun _ => False))) (fun i _ => n - (intOf i).toNat)
      case atStart => exact ⟨0, by omega, rfl, HQ⟩
      case round =>
        clear HQ
        obtain ⟨j, hj, rfl, HI⟩ := hrel
        obtain ⟨S, d1, d2, P⟩ := HI.out
        clear HI
        by_cases hjn : j < n
        · have ujn : decide ((j : Int) < (n : Int)) = true := decide_eq_true (by omega)
          have ij : (j : Int) < (n : Int) := by omega
          have ij1 : (j : Int) ≤ 100 := by omega
          have d1' := d1.run
          have d2' := d2.set.tic (by omega)
          have X1 := xsettle P
          clear P d1 d2
          go_wp2_with fail
          refine X1.mono ?_
          clear X1
          rintro e wc ⟨v, rfl, P, _⟩
          have X3 := xtick P
          clear P
          go_wp2_with fail
          refine X3.mono ?_
          clear X3
          rintro e wf ⟨v, rfl, P, _⟩
          have HQ : Hid (∃ S, Dis p m false S ∧ OneT (j + 1) S ∧ Sx w1 wf b S (fun _ => False)) := ⟨_, d1', d2', P⟩
          clear P d1' d2'
          go_wp2_with fail
          go_roundw
          case rel => exact ⟨j + 1, by omega, by go_num, HQ⟩
          case measure => simp [intOf]; omega
        · have ujn : decide ((j : Int) < (n : Int)) = false := decide_eq_false (by omega)
          have ij : ¬ (j : Int) < (n : Int) := by omega
          have HD : Hid _ := dis_end P.ok d1 d2 (by omega) (by omega)
          have X1 := xsettle P
          clear P d1 d2
          go_wp2_with fail
          refine X1.mono ?_
          clear X1
          rintro e wc ⟨v, rfl, P, _⟩
          have X2 := xcur P
          go_wp2_with fail
          refine X2.mono ?_
          clear X2
          rintro e wd ⟨rfl, rfl⟩
          obtain ⟨c0, c1, t50, c50, ⟨l, hr, hl⟩, hs, t51, ce⟩ := HD.out
          clear HD
          have Hs : Hid ((thrC (setS (wakS (setS S) 50)) (setS S).c).s = (thrC (setS S) (setS S).c).s) := hs
          clear hs
          have X3 := xthr P (setS S).c (i64_of (by omega) (by omega))
          generalize hA : setS S = A at *
          clear hA
          go_wp2_with fail
          refine X3.mono ?_
          clear X3
          rintro e we ⟨rfl, f3⟩
          replace P := P.keep0 f3
          clear f3
          have f4 := (Fr.refl none' we).alloc (.cells (tkA (thrC A A.c)) 40)
          have r4 := row_alloc we (tkA (thrC A A.c)) 40
          replace P := P.more (O' := fun k => k = we.heap.size) f4 (fun k hk => ⟨Or.inr (by omega), by simp; omega⟩)
          have X4 := xwake P 50 (i64_of (by omega) (by omega))
          rw [t50] at X4
          dsimp only [tkA] at X4 r4
          clear f4 P
          go_wp2_with fail
          generalize we.alloc (.cells #[.int .i64 (thrC A A.c).i, .int .i64 (thrC A A.c).p, .int .i64 (thrC A A.c).d, .int .i64 (thrC A A.c).s, .bool (thrC A A.c).a] 40) = wg at *
          generalize we.heap.size = ga at *
          refine X4.mono ?_
          clear X4
          rintro e wh ⟨rfl, P, f4⟩
          replace r4 := Row.keep r4 f4 (fun h => h.2 rfl)
          clear f4
          have X5 := xsettle P
          clear P
          go_wp2_with fail
          refine X5.mono ?_
          clear X5
          rintro e wi ⟨v, rfl, P, f4⟩
          replace r4 := Row.keep r4 f4 (fun h => h.2 rfl)
          clear f4
          generalize hB : setS (wakS A 50) = B at *
          clear hB
          have X6 := xcur P
          rw [c50] at X6
          go_wp2_with fail
          refine X6.mono ?_
          clear X6
          rintro e wj ⟨rfl, rfl⟩
          have X7 := xrea P 0 p
          rw [hr] at X7
          go_wp2_with fail
          refine X7.mono ?_
          clear X7
          rintro e wk ⟨vq, rfl, f7, aq, cq, rfl, hq⟩
          obtain ⟨gq, rfl, hgq, cq0⟩ := hq 0 A.c rfl
          have ltq := Row.lt r4
          have nq : ga ≠ gq := by omega
          have gqlt : gq < wk.heap.size := cell_lt cq0
          replace P := P.more (O' := fun k => k = ga ∨ k = gq) f7 (fun k hk => ⟨by rcases hk with rfl | rfl; exact Or.inl rfl; exact Or.inr hgq, by rcases hk with rfl | rfl; exact Nat.lt_of_lt_of_le ltq f7.size; exact gqlt⟩)
          replace r4 := Row.keep r4 f7 (fun h => h)
          clear f7 hq hgq ltq
          have X8 := xthr P A.c (i64_of (by omega) (by omega))
          go_wp2_with fail
          refine X8.mono ?_
          clear X8
          rintro e wl ⟨rfl, f8⟩
          replace P := P.keep0 f8
          replace r4 := Row.keep r4 f8 (fun h => h)
          replace cq0 := cell_keep f8 cq0 (fun h => h)
          have f9 := (Fr.refl none' wl).alloc (.cells (tkA (thrC B A.c)) 40)
          have r9 := row_alloc wl (tkA (thrC B A.c)) 40
          have ltq := Row.lt r4
          have gqlt2 := Nat.lt_of_lt_of_le gqlt f8.size
          clear f8 gqlt
          have s9 : (wl.alloc (.cells (tkA (thrC B A.c)) 40)).heap.size = wl.heap.size + 1 := by simp
          replace P := P.more (O' := fun k => k = ga ∨ k = gq ∨ k = wl.heap.size) f9 (fun k hk => ⟨by rcases hk with rfl | rfl | rfl; exact Or.inl (Or.inl rfl); exact Or.inl (Or.inr rfl); exact Or.inr (Nat.le_refl _), by rw [s9]; rcases hk with rfl | rfl | rfl <;> omega⟩)
          replace r4 := Row.keep r4 f9 (fun h => h)
          replace cq0 := cell_keep f9 cq0 (fun h => h)
          clear f9 ltq gqlt2 s9
          have X9 := xstop P 50 (i64_of (by omega) (by omega))
          rw [t51] at X9
          dsimp only [tkA] at X9 r9 r4 cq0
          clear P
          go_wp2_with fail
          generalize wl.alloc (.cells #[.int .i64 (thrC B A.c).i, .int .i64 (thrC B A.c).p, .int .i64 (thrC B A.c).d, .int .i64 (thrC B A.c).s, .bool (thrC B A.c).a] 40) = wm at *
          generalize wl.heap.size = gb at *
          refine X9.mono ?_
          clear X9
          rintro e wn ⟨rfl, P, f4⟩
          replace r4 := Row.keep r4 f4 (fun h => h.2 (Or.inl rfl))
          replace r9 := Row.keep r9 f4 (fun h => h.2 (Or.inr (Or.inr rfl)))
          replace cq0 := cell_keep f4 cq0 (fun h => h.2 (Or.inr (Or.inl rfl)))
          clear f4
          have X10 := xsettle P
          clear P
          go_wp2_with fail
          refine X10.mono ?_
          clear X10
          rintro e wo ⟨v, rfl, P, f4⟩
          replace r4 := Row.keep r4 f4 (fun h => h.2 (Or.inl rfl))
          replace r9 := Row.keep r9 f4 (fun h => h.2 (Or.inr (Or.inr rfl)))
          replace cq0 := cell_keep f4 cq0 (fun h => h.2 (Or.inr (Or.inl rfl)))
          clear f4
          have X11 := xcur P
          rw [ce] at X11
          have HE : Hid (Fr none' w wo) := HF.out.trans P.old
          clear P
          go_wp2_with fail
          refine X11.mono ?_
          clear X11
          rintro e wp ⟨rfl, rfl⟩
          have k4 := r4.cell 3
          have k9 := r9.cell 3
          dsimp at k4 k9
          rw [Hs.out] at k9
          clear Hs
          clear r4 r9
          generalize (thrC A A.c).s = sl at *
          generalize A.c = ac at *
          have hm0 : 0 < m := by omega
          have i0 : (0 : Int) < (m : Int) := by omega
          clear hl hr
          go_wp2_with fail
          go_ret
          exact ⟨by first | rfl | simp, HE.out⟩

theorem disp_any (many ticks priority : Int) (w : World) : Calls Try.prog 8 #[.int .i64 many, .int .i64 ticks, .int .i64 priority] w fun e w' => e = .returned (.bool true) ∧ Below w.heap.size w w' := by
  have H : Calls Try.prog 8 #[.int .i64 many, .int .i64 ticks, .int .i64 priority] w fun e w' => e = .returned (.bool true) ∧ Fr none' w w' := by
    by_cases h : 1 ≤ many ∧ many ≤ 8 ∧ 0 ≤ ticks ∧ ticks ≤ 100 ∧ 0 ≤ priority ∧ priority ≤ 62
    · obtain ⟨n_many, rfl⟩ : ∃ n : Nat, many = (n : Int) := ⟨many.toNat, by omega⟩
      obtain ⟨n_ticks, rfl⟩ : ∃ n : Nat, ticks = (n : Int) := ⟨ticks.toNat, by omega⟩
      exact disp_in n_many n_ticks priority w (by omega)
    · exact disp_out many ticks priority w (by omega)
  exact H.mono fun _ _ ⟨he, hf⟩ => ⟨he, hf.below (Nat.le_refl _) (fun _ h => h.elim)⟩

end Go.Proofs.Ytipfgenbfnkpfaa
