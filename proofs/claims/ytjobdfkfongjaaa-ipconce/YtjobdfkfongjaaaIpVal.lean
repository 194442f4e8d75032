/-
  Contracts of package ipc's small functions over the translation. No statement is proved here.
-/
import Derived.Test.YtjobdfkfongjaaaIpDefs
import Derived.Test.YtjobdfkfongjaaaRows
import Derived.WalkKit
import Derived.WalkSpells
import Derived.WalkLawsBesides
import Derived.BigQuiet
import Derived.Deep.QuietTactic
import Derived.Laws.ResultCell
import Derived.Laws.Rows
import Derived.Laws.StructEq
import Derived.Deep.RegionHeld3
import Derived.Shelf.Abstract
import Derived.Maps.OwnSet
import Derived.Laws.AppendOwnNone
namespace Go.Proofs.Ytjobdfkfongjaaa
open Go.RowKit Go.Maps Go.WideMaps

theorem isn_any (n : Int) (w : World) : Calls Try.prog 56 #[.int .i64 n] w fun e w' => e = .returned (.bool (numB n)) ∧ w' = w := by
  unfold numB
  cases h : decide (0 ≤ n) with
  | true =>
    simp only [Bool.true_and]
    go_enter Try.func56, Try.ntmps56
    go_wp2
    go_ret
    exact ⟨rfl, rfl⟩
  | false =>
    simp only [Bool.false_and]
    go_enter Try.func56, Try.ntmps56
    go_wp2
    go_ret
    exact ⟨rfl, rfl⟩
theorem ism_any (n : Int) (w : World) : Calls Try.prog 66 #[.int .i64 n] w fun e w' => e = .returned (.bool (mrkB n)) ∧ w' = w := by
  unfold mrkB
  cases h : decide (0 ≤ n) with
  | true =>
    simp only [Bool.true_and]
    go_enter Try.func66, Try.ntmps66
    go_wp2
    go_ret
    exact ⟨rfl, rfl⟩
  | false =>
    simp only [Bool.false_and]
    go_enter Try.func66, Try.ntmps66
    go_wp2
    go_ret
    exact ⟨rfl, rfl⟩

/-! ### messages -/
abbrev msA (m : Ms) : Array Value := #[.int .i64 m.l, .int .i64 m.b, .int .i64 m.n, .int .u32 m.w0, .int .u32 m.w1, .int .u32 m.w2, .int .u32 m.w3]
abbrev msV (m : Ms) : Value := .agg (msA m)
def wv (m : Ms) : Nat → Int
  | 0 => m.w0
  | 1 => m.w1
  | 2 => m.w2
  | _ => m.w3
theorem wrd_iff {m : Ms} {n : Nat} (e : m.n = (n : Int)) : wrdB m = true ↔ ∀ k, n ≤ k → k < 4 → wv m k = 0 := by
  unfold wrdB
  rw [e]
  simp only [Bool.and_eq_true, Bool.or_eq_true, decide_eq_true_eq, beq_iff_eq]
  constructor
  · rintro ⟨h0, h1, h2, h3⟩ k hk hk4
    match k, hk4 with
    | 0, _ => show m.w0 = 0; rcases h0 with h | h; omega; exact h
    | 1, _ => show m.w1 = 0; rcases h1 with h | h; omega; exact h
    | 2, _ => show m.w2 = 0; rcases h2 with h | h; omega; exact h
    | 3, _ => show m.w3 = 0; rcases h3 with h | h; omega; exact h
  · intro h
    refine ⟨?_, ?_, ?_, ?_⟩
    · by_cases hh : (1 : Int) ≤ n
      · exact Or.inl hh
      · exact Or.inr (h 0 (by omega) (by omega))
    · by_cases hh : (2 : Int) ≤ n
      · exact Or.inl hh
      · exact Or.inr (h 1 (by omega) (by omega))
    · by_cases hh : (3 : Int) ≤ n
      · exact Or.inl hh
      · exact Or.inr (h 2 (by omega) (by omega))
    · by_cases hh : (4 : Int) ≤ n
      · exact Or.inl hh
      · exact Or.inr (h 3 (by omega) (by omega))

set_option maxRecDepth 100000 in
set_option maxHeartbeats 2000000 in
theorem may_any (m : Ms) (w : World) : Calls Try.prog 57 #[msV m] w fun e w' => e = .returned (.bool (mayM m)) ∧ Fr none' w w' := by
  have f0 := (Fr.refl none' w).alloc (.cells (msA m) 36)
  have r0 := row_alloc w (msA m) 36
  have c0 : (w.alloc (.cells (msA m) 36)).cell? ⟨w.heap.size, 0, none⟩ = some (.int .i64 m.l) := r0.cell 0
  have c1 : (w.alloc (.cells (msA m) 36)).cell? ⟨w.heap.size, 1, none⟩ = some (.int .i64 m.b) := r0.cell 1
  have c2 : (w.alloc (.cells (msA m) 36)).cell? ⟨w.heap.size, 2, none⟩ = some (.int .i64 m.n) := r0.cell 2
  unfold mayM
  cases hl : mrkB m.l with
  | false =>
    simp only [Bool.false_and]
    clear r0
    go_enter Try.func57, Try.ntmps57
    go_wp2_with (go_at_call 66; refine (ism_any _ _).mono ?_; rintro e w1 ⟨rfl, rfl⟩)
    go_ret
    exact ⟨rfl, f0⟩
  | true =>
    simp only [Bool.true_and]
    cases hb : mrkB m.b with
    | false =>
      simp only [Bool.false_and]
      clear r0
      go_enter Try.func57, Try.ntmps57
      go_wp2_with (go_at_call 66; refine (ism_any _ _).mono ?_; rintro e w1 ⟨rfl, rfl⟩)
      go_ret
      exact ⟨rfl, f0⟩
    | true =>
      simp only [Bool.true_and]
      by_cases h0 : m.n < 0
      · have g0 : decide (m.n < 0) = true := decide_eq_true h0
        have e0 : decide (0 ≤ m.n) = false := decide_eq_false (by omega)
        rw [e0]
        simp only [Bool.false_and]
        clear r0
        go_enter Try.func57, Try.ntmps57
        go_wp2_with (go_at_call 66; refine (ism_any _ _).mono ?_; rintro e w1 ⟨rfl, rfl⟩)
        go_ret
        exact ⟨rfl, f0⟩
      · have g0 : decide (m.n < 0) = false := decide_eq_false h0
        have e0 : decide (0 ≤ m.n) = true := decide_eq_true (by omega)
        rw [e0]
        simp only [Bool.true_and]
        by_cases h4 : 4 < m.n
        · have g4 : decide (4 < m.n) = true := decide_eq_true h4
          have e4 : decide (m.n ≤ 4) = false := decide_eq_false (by omega)
          rw [e4]
          simp only [Bool.false_and]
          clear r0
          go_enter Try.func57, Try.ntmps57
          go_wp2_with (go_at_call 66; refine (ism_any _ _).mono ?_; rintro e w1 ⟨rfl, rfl⟩)
          go_ret
          exact ⟨rfl, f0⟩
        · have g4 : decide (4 < m.n) = false := decide_eq_false h4
          have e4 : decide (m.n ≤ 4) = true := decide_eq_true (by omega)
          rw [e4]
          simp only [Bool.true_and]
          obtain ⟨n, hn⟩ : ∃ n : Nat, m.n = (n : Int) := ⟨m.n.toNat, by omega⟩
          have HI : Hid (wrdB m = true ↔ ∀ k, n ≤ k → k < 4 → wv m k = 0) := wrd_iff hn
          have HC : Hid (∀ k, k < 4 → (w.alloc (.cells (msA m) 36)).cell? ⟨w.heap.size, 3 + k, none⟩ = some (.int .u32 (wv m k))) := fun k hk => by
            match k, hk with
            | 0, _ => exact r0.cell 3
            | 1, _ => exact r0.cell 4
            | 2, _ => exact r0.cell 5
            | 3, _ => exact r0.cell 6
          rw [hn] at c2 g0 g4
          have n4 : n ≤ 4 := by omega
          have in4 : (n : Int) ≤ 4 := by omega
          have HW : Hid (Fr none' w (w.alloc (.cells (msA m) 36))) := f0
          have HR : Hid (∀ b, (b = true ↔ ∀ k, n ≤ k → k < 4 → wv m k = 0) → wrdB m = b) := fun b hb => by
            rw [Bool.eq_iff_iff]
            exact HI.out.trans hb.symm
          dsimp only [msA] at HC HW
          clear r0 f0 h0 h4 hn HI e0 e4
          generalize hX : wrdB m = X at *
          clear hX
          by_cases hn4 : n = 4
          · subst hn4
            have hX : X = true := HR.out true ⟨fun _ k h1 h2 => by omega, fun _ => rfl⟩
            rw [hX]
            clear HR HC hX
            go_enter Try.func57, Try.ntmps57
            go_wp2_with (go_at_call 66; refine (ism_any _ _).mono ?_; rintro e w1 ⟨rfl, rfl⟩)
            go_loopw [30] (fun i wr => i = .int .i64 0 ∧ Hid (Fr none' w wr)) (fun i _ => 0)
            case atStart => exact ⟨rfl, HW⟩
            case round =>
              obtain ⟨rfl, HF⟩ := hrel
              go_wp2_with fail
              go_ret
              exact ⟨rfl, HF.out⟩
          · have hlt : n < 4 := by omega
            have ilt : (n : Int) < 4 := by omega
            go_enter Try.func57, Try.ntmps57
            go_wp2_with (go_at_call 66; refine (ism_any _ _).mono ?_; rintro e w1 ⟨rfl, rfl⟩)
            obtain ⟨M, hM⟩ : ∃ M, M = 4 - n := ⟨_, rfl⟩
            rw [← hM]
            have HM : Hid (M = 4 - n) := hM
            have M4 : M ≤ 4 := by omega
            clear hM hn4 ilt hlt c0 c1 c2
            generalize w.alloc (.cells #[.int .i64 m.l, .int .i64 m.b, .int .i64 m.n, .int .u32 m.w0, .int .u32 m.w1, .int .u32 m.w2, .int .u32 m.w3] 36) = W at *
            generalize w.heap.size = gx at *
            go_loopw [30] (fun i wr => ∃ j : Nat, j ≤ M ∧ i = .int .i64 (j : Int) ∧ Hid (Fr none' W wr) ∧ Hid (∀ k, n ≤ k → k < n + j → wv m k = 0)) (fun i _ => M - (intOf i).toNat)
            case atStart => exact ⟨0, by omega, rfl, Fr.refl _ _, fun k h1 h2 => by omega⟩
            case round =>
              obtain ⟨j, hj, rfl, HF, HK⟩ := hrel
              by_cases hjM : j < M
              · have ij : 0 ≤ (j : Int) ∧ (j : Int) < (M : Int) := by omega
                have cj := cell_keep HF.out (HC.out (n + j) (by have := HM.out; omega)) (fun h => h)
                rw [← Nat.add_assoc] at cj
                by_cases hz : wv m (n + j) = 0
                · have t1 : (wv m (n + j) != 0) = false := by simp [hz]
                  have HK2 : Hid (∀ k, n ≤ k → k < n + (j + 1) → wv m k = 0) := fun k h1 h2 => by
                    by_cases e : k = n + j
                    · rw [e]; exact hz
                    · exact HK.out k h1 (by omega)
                  clear hz HK
                  generalize wv m (n + j) = y at *
                  go_wp2_with fail
                  go_roundw
                  case rel => exact ⟨j + 1, by omega, by go_num, HF, HK2⟩
                  case measure => simp [intOf]; omega
                · have t1 : (wv m (n + j) != 0) = true := by simpa using hz
                  have HX : Hid (X = false) := HR.out false ⟨fun h => (by cases h), fun h => absurd (h (n + j) (by omega) (by have := HM.out; omega)) hz⟩
                  have HZ : Hid (Fr none' w wr) := HW.out.trans HF.out
                  clear hz HK HF
                  generalize wv m (n + j) = y at *
                  go_wp2_with fail
                  go_ret
                  rw [HX.out]
                  exact ⟨rfl, HZ.out⟩
              · have ij : ¬ (j : Int) < (M : Int) := by omega
                have HX : Hid (X = true) := HR.out true ⟨fun _ k h1 h2 => HK.out k h1 (by have := HM.out; omega), fun _ => rfl⟩
                have HZ : Hid (Fr none' w wr) := HW.out.trans HF.out
                clear HK HF
                go_wp2_with fail
                go_ret
                rw [HX.out]
                exact ⟨rfl, HZ.out⟩

/-! ### places -/
abbrev plV (s o : Int) : Value := .agg #[.int .i64 s, .int .i64 o]
theorem size_pl : (Try.prog.info? 82).map (·.size) = some 2 := by kernel_rfl
theorem ret_pl {fn : Func} {p : Tmp} {tmps : Array Value} {g : Nat} {cs : Array Value} {w : World} (h : fn.results = #[.cell p 82]) (hp : tmps.getD p undef = .pointer (some ⟨g, 0, none⟩)) (hr : Row w g cs 82) (hs : cs.size = 2) :
    (results fn tmps).run Try.prog w = .ok (.agg cs) w :=
  results_cell_row h tmps w g _ cs (0, 0) _ hp hr Try.underlying82 rfl (by rw [hs]; exact size_pl)

theorem nowhere_any (w : World) : Calls Try.prog 84 #[] w fun e w' => e = .returned (plV 0 (-1)) ∧ Fr none' w w' := by
  have r0 := row_alloc w #[.int .i64 0, .int .i64 (-1)] 82
  have f0 := (Fr.refl none' w).alloc (.cells #[.int .i64 0, .int .i64 (-1)] 82)
  go_enter Try.func84, Try.ntmps84
  go_wp2
  refine bodyPost_ret (ret_pl rfl rfl r0 rfl) rfl ?_
  exact ⟨rfl, f0⟩
theorem senders_any (e : Int) (w : World) : Calls Try.prog 51 #[.int .i64 e] w fun r w' => r = .returned (plV 2 e) ∧ Fr none' w w' := by
  have r0 := row_alloc w #[.int .i64 2, .int .i64 e] 82
  have f0 := (Fr.refl none' w).alloc (.cells #[.int .i64 2, .int .i64 e] 82)
  go_enter Try.func51, Try.ntmps51
  go_wp2
  refine bodyPost_ret (ret_pl rfl rfl r0 rfl) rfl ?_
  exact ⟨rfl, f0⟩
theorem receivers_any (e : Int) (w : World) : Calls Try.prog 52 #[.int .i64 e] w fun r w' => r = .returned (plV 3 e) ∧ Fr none' w w' := by
  have r0 := row_alloc w #[.int .i64 3, .int .i64 e] 82
  have f0 := (Fr.refl none' w).alloc (.cells #[.int .i64 3, .int .i64 e] 82)
  go_enter Try.func52, Try.ntmps52
  go_wp2
  refine bodyPost_ret (ret_pl rfl rfl r0 rfl) rfl ?_
  exact ⟨rfl, f0⟩
theorem answer_any (e : Int) (w : World) : Calls Try.prog 63 #[.int .i64 e] w fun r w' => r = .returned (plV 4 e) ∧ Fr none' w w' := by
  have r0 := row_alloc w #[.int .i64 4, .int .i64 e] 82
  have f0 := (Fr.refl none' w).alloc (.cells #[.int .i64 4, .int .i64 e] 82)
  go_enter Try.func63, Try.ntmps63
  go_wp2
  refine bodyPost_ret (ret_pl rfl rfl r0 rfl) rfl ?_
  exact ⟨rfl, f0⟩
theorem listeners_any (e : Int) (w : World) : Calls Try.prog 68 #[.int .i64 e] w fun r w' => r = .returned (plV 5 e) ∧ Fr none' w w' := by
  have r0 := row_alloc w #[.int .i64 5, .int .i64 e] 82
  have f0 := (Fr.refl none' w).alloc (.cells #[.int .i64 5, .int .i64 e] 82)
  go_enter Try.func68, Try.ntmps68
  go_wp2
  refine bodyPost_ret (ret_pl rfl rfl r0 rfl) rfl ?_
  exact ⟨rfl, f0⟩
theorem neq_pl (s o s' o' : Int) (w : World) : (binOp .neq 82 (plV s o) (plV s' o')).run Try.prog w = .ok (.bool (!(s == s' && o == o'))) w := by
  simp [go_sem]
  repeat' split
  all_goals simp_all

end Go.Proofs.Ytjobdfkfongjaaa
