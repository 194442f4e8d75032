/-
  The document's is, number and Right over the translation. No statement is proved here.
-/
import Derived.Test.YtjobdfkfongjaaaIpVal
namespace Go.Proofs.Ytjobdfkfongjaaa
open Go.RowKit Go.Maps Go.WideMaps

theorem rnum_any (n : Int) (w : World) : Calls Try.prog 83 #[.int .i64 n] w fun e w' => e = .returned (.bool (mrkB n)) ∧ w' = w := by
  unfold mrkB
  cases h : decide (0 ≤ n) with
  | true =>
    simp only [Bool.true_and]
    go_enter Try.func83, Try.ntmps83
    go_wp2
    go_ret
    exact ⟨rfl, rfl⟩
  | false =>
    simp only [Bool.false_and]
    go_enter Try.func83, Try.ntmps83
    go_wp2
    go_ret
    exact ⟨rfl, rfl⟩

set_option maxRecDepth 100000 in
set_option maxHeartbeats 2000000 in
theorem right_any (m : Ms) (w : World) : Calls Try.prog 73 #[msV m] w fun e w' => e = .returned (.bool (mayM m)) ∧ Fr none' w w' := by
  have f0 := (Fr.refl none' w).alloc (.cells (msA m) 36)
  have r0 := row_alloc w (msA m) 36
  have c0 : (w.alloc (.cells (msA m) 36)).cell? ⟨w.heap.size, 0, none⟩ = some (.int .i64 m.l) := r0.cell 0
  have c1 : (w.alloc (.cells (msA m) 36)).cell? ⟨w.heap.size, 1, none⟩ = some (.int .i64 m.b) := r0.cell 1
  have c2 : (w.alloc (.cells (msA m) 36)).cell? ⟨w.heap.size, 2, none⟩ = some (.int .i64 m.n) := r0.cell 2
  unfold mayM
  cases hl : mrkB m.l with
  | false =>
    simp only [Bool.false_and]
    clear r0
    go_enter Try.func73, Try.ntmps73
    go_wp2_with (go_at_call 83; refine (rnum_any _ _).mono ?_; rintro e w1 ⟨rfl, rfl⟩)
    go_ret
    exact ⟨rfl, f0⟩
  | true =>
    simp only [Bool.true_and]
    cases hb : mrkB m.b with
    | false =>
      simp only [Bool.false_and]
      clear r0
      go_enter Try.func73, Try.ntmps73
      go_wp2_with (go_at_call 83; refine (rnum_any _ _).mono ?_; rintro e w1 ⟨rfl, rfl⟩)
      go_ret
      exact ⟨rfl, f0⟩
    | true =>
      simp only [Bool.true_and]
      by_cases h0 : m.n < 0
      · have g0 : decide (m.n < 0) = true := decide_eq_true h0
        have e0 : decide (0 ≤ m.n) = false := decide_eq_false (by omega)
        rw [e0]
        simp only [Bool.false_and]
        clear r0
        go_enter Try.func73, Try.ntmps73
        go_wp2_with (go_at_call 83; refine (rnum_any _ _).mono ?_; rintro e w1 ⟨rfl, rfl⟩)
        go_ret
        exact ⟨rfl, f0⟩
      · have g0 : decide (m.n < 0) = false := decide_eq_false h0
        have e0 : decide (0 ≤ m.n) = true := decide_eq_true (by omega)
        rw [e0]
        simp only [Bool.true_and]
        by_cases h4 : 4 < m.n
        · have g4 : decide (4 < m.n) = true := decide_eq_true h4
          have e4 : decide (m.n ≤ 4) = false := decide_eq_false (by omega)
          rw [e4]
          simp only [Bool.false_and]
          clear r0
          go_enter Try.func73, Try.ntmps73
          go_wp2_with (go_at_call 83; refine (rnum_any _ _).mono ?_; rintro e w1 ⟨rfl, rfl⟩)
          go_ret
          exact ⟨rfl, f0⟩
        · have g4 : decide (4 < m.n) = false := decide_eq_false h4
          have e4 : decide (m.n ≤ 4) = true := decide_eq_true (by omega)
          rw [e4]
          simp only [Bool.true_and]
          obtain ⟨n, hn⟩ : ∃ n : Nat, m.n = (n : Int) := ⟨m.n.toNat, by omega⟩
          have HI : Hid (wrdB m = true ↔ ∀ k, n ≤ k → k < 4 → wv m k = 0) := wrd_iff hn
          have HC : Hid (∀ k, k < 4 → (w.alloc (.cells (msA m) 36)).cell? ⟨w.heap.size, 3 + k, none⟩ = some (.int .u32 (wv m k))) := fun k hk => by
            match k, hk with
            | 0, _ => exact r0.cell 3
            | 1, _ => exact r0.cell 4
            | 2, _ => exact r0.cell 5
            | 3, _ => exact r0.cell 6
          rw [hn] at c2 g0 g4
          have n4 : n ≤ 4 := by omega
          have in4 : (n : Int) ≤ 4 := by omega
          have HW : Hid (Fr none' w (w.alloc (.cells (msA m) 36))) := f0
          have HR : Hid (∀ b, (b = true ↔ ∀ k, n ≤ k → k < 4 → wv m k = 0) → wrdB m = b) := fun b hb => by
            rw [Bool.eq_iff_iff]
            exact HI.out.trans hb.symm
          dsimp only [msA] at HC HW
          clear r0 f0 h0 h4 hn HI e0 e4
          generalize hX : wrdB m = X at *
          clear hX
          go_enter Try.func73, Try.ntmps73
          go_wp2_with (go_at_call 83; refine (rnum_any _ _).mono ?_; rintro e w1 ⟨rfl, rfl⟩)
          clear c0 c1 c2
          generalize w.alloc (.cells #[.int .i64 m.l, .int .i64 m.b, .int .i64 m.n, .int .u32 m.w0, .int .u32 m.w1, .int .u32 m.w2, .int .u32 m.w3] 36) = W at *
          generalize w.heap.size = gx at *
          go_loopw [5] (fun i wr => ∃ j : Nat, n ≤ j ∧ j ≤ 4 ∧ i = .int .i64 (j : Int) ∧ Hid (Fr none' W wr) ∧ Hid (∀ k, n ≤ k → k < j → wv m k = 0)) (fun i _ => 4 - (intOf i).toNat)
          case atStart => exact ⟨n, by omega, by omega, rfl, Fr.refl _ _, fun k h1 h2 => by omega⟩
          case round =>
            obtain ⟨j, hj0, hj, rfl, HF, HK⟩ := hrel
            by_cases hjM : j < 4
            · have ij : 0 ≤ (j : Int) ∧ (j : Int) < 4 := by omega
              have uj : decide ((j : Int) < 4) = true := decide_eq_true (by omega)
              have cj := cell_keep HF.out (HC.out j (by omega)) (fun h => h)
              by_cases hz : wv m j = 0
              · have t1 : (wv m j != 0) = false := by simp [hz]
                have HK2 : Hid (∀ k, n ≤ k → k < j + 1 → wv m k = 0) := fun k h1 h2 => by
                  by_cases e : k = j
                  · rw [e]; exact hz
                  · exact HK.out k h1 (by omega)
                clear hz HK
                generalize wv m j = y at *
                go_wp2_with fail
                go_roundw
                case rel => exact ⟨j + 1, by omega, by omega, by go_num, HF, HK2⟩
                case measure => simp [intOf]; omega
              · have t1 : (wv m j != 0) = true := by simpa using hz
                have HX : Hid (X = false) := HR.out false ⟨fun h => (by cases h), fun h => absurd (h j (by omega) (by omega)) hz⟩
                have HZ : Hid (Fr none' w wr) := HW.out.trans HF.out
                clear hz HK HF
                generalize wv m j = y at *
                go_wp2_with fail
                go_ret
                rw [HX.out]
                exact ⟨rfl, HZ.out⟩
            · have uj : decide ((j : Int) < 4) = false := decide_eq_false (by omega)
              have HX : Hid (X = true) := HR.out true ⟨fun _ k h1 h2 => HK.out k h1 (by omega), fun _ => rfl⟩
              have HZ : Hid (Fr none' w wr) := HW.out.trans HF.out
              clear HK HF
              go_wp2_with fail
              go_ret
              rw [HX.out]
              exact ⟨rfl, HZ.out⟩

end Go.Proofs.Ytjobdfkfongjaaa
