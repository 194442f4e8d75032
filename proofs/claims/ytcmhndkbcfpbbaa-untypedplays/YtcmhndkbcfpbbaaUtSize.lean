/-
  Contracts of package untyped's isSize, Size and above over the translation. No statement is proved here.
-/
import Derived.Test.YtcmhndkbcfpbbaaUtVal
namespace Go.Proofs.Ytcmhndkbcfpbbaa
open Go.RowKit Go.Maps Go.WideMaps

set_option maxRecDepth 100000 in
set_option maxHeartbeats 1000000 in
theorem issize_any (n : Int) (w : World) : Calls Try.prog 38 #[.int .i64 n] w fun e w' => e = .returned (.bool (sz2 n)) ∧ w' = w := by
  cases h : sz2 n with
  | true =>
    rcases sz2_cases h with rfl | rfl | rfl | rfl | rfl | rfl | rfl | rfl | rfl | rfl
    all_goals
      clear h
      go_enter Try.func38, Try.ntmps38
      go_wp2
      refine wp_loop_rounds 11 ?_
      repeat (rw [rounds_succ]; go_wp2)
      go_ret
      exact ⟨rfl, rfl⟩
  | false =>
    simp only [sz2, Bool.or_eq_false_iff, beq_eq_false_iff_ne] at h
    obtain ⟨⟨⟨⟨⟨⟨⟨⟨⟨h0, h1⟩, h2⟩, h3⟩, h4⟩, h5⟩, h6⟩, h7⟩, h8⟩, h9⟩ := h
    go_enter Try.func38, Try.ntmps38
    go_wp2
    refine wp_loop_rounds 11 ?_
    rw [rounds_succ]; go_wp2
    rw [rounds_succ]; go_wp2
    rw [rounds_succ]; go_wp2
    rw [rounds_succ]; go_wp2
    rw [rounds_succ]; go_wp2
    rw [rounds_succ]; go_wp2
    rw [rounds_succ]; go_wp2
    rw [rounds_succ]; go_wp2
    rw [rounds_succ]; go_wp2
    rw [rounds_succ]; go_wp2
    rw [rounds_succ]; go_wp2
    go_ret
    exact ⟨rfl, rfl⟩

set_option maxRecDepth 100000 in
set_option maxHeartbeats 1000000 in
theorem usize_any (k n : Int) (w : World) : Calls Try.prog 18 #[.int .i64 k, .int .i64 n] w fun e w' => e = .returned (.tuple #[.int .i64 (sizV k n), .int .i64 (sizE k n)]) ∧ w' = w := by
  by_cases h1 : k = 1
  · subst h1
    unfold sizV sizE
    rw [if_pos rfl]
    have R := fun W => issize_any n W
    cases h : sz2 n with
    | true =>
      rw [h] at R
      go_enter Try.func18, Try.ntmps18
      go_wp2_with (go_at_call 38; refine (R _).mono ?_; rintro e w1 ⟨rfl, rfl⟩)
      go_ret2
      exact ⟨rfl, rfl⟩
    | false =>
      rw [h] at R
      go_enter Try.func18, Try.ntmps18
      go_wp2_with (go_at_call 38; refine (R _).mono ?_; rintro e w1 ⟨rfl, rfl⟩)
      go_ret2
      exact ⟨rfl, rfl⟩
  · by_cases h2 : 2 ≤ k ∧ k ≤ 8
    · unfold sizV sizE
      rw [if_neg h1, if_pos h2]
      have hk : k = 2 ∨ k = 3 ∨ k = 4 ∨ k = 5 ∨ k = 6 ∨ k = 7 ∨ k = 8 := by omega
      by_cases hn : n = 1
      · subst hn
        rw [if_pos rfl, if_pos rfl]
        clear h1 h2
        rcases hk with rfl | rfl | rfl | rfl | rfl | rfl | rfl
        all_goals
          go_enter Try.func18, Try.ntmps18
          go_wp2
          go_ret2
          exact ⟨rfl, rfl⟩
      · rw [if_neg hn, if_neg (by decide)]
        have hb : (n == 1) = false := by simpa using hn
        clear h1 h2
        rcases hk with rfl | rfl | rfl | rfl | rfl | rfl | rfl
        all_goals
          go_enter Try.func18, Try.ntmps18
          go_wp2
          go_ret2
          exact ⟨rfl, rfl⟩
    · unfold sizV sizE
      rw [if_neg h1, if_neg h2, if_neg (by decide)]
      have e2 : k ≠ 2 := by omega
      have e3 : k ≠ 3 := by omega
      have e4 : k ≠ 4 := by omega
      have e5 : k ≠ 5 := by omega
      have e6 : k ≠ 6 := by omega
      have e7 : k ≠ 7 := by omega
      have e8 : k ≠ 8 := by omega
      clear h2
      go_enter Try.func18, Try.ntmps18
      go_wp2
      go_ret2
      exact ⟨rfl, rfl⟩

theorem w64 {x : Int} (h1 : -9223372036854775808 ≤ x) (h2 : x ≤ 9223372036854775807) : IntKind.i64.wrap x = x := by
  rw [IntKind.wrap_i64]; omega
theorem w64' {x : Int} (h1 : -9223372036854775808 ≤ x) (h2 : x ≤ 9223372036854775807) : wrap64 x = x := by
  unfold wrap64; omega

set_option maxRecDepth 100000 in
set_option maxHeartbeats 1000000 in
theorem above_any (n s : Int) (h0 : 0 ≤ n) (h1 : n ≤ 2000) (h2 : 1 ≤ s) (h3 : s ≤ 512) (w : World) : Calls Try.prog 45 #[.int .i64 n, .int .i64 s] w fun e w' => e = .returned (.int .i64 (upTo n s)) ∧ w' = w := by
  have hs : s ≠ 0 := by omega
  have hu := upTo_le (n := n) h2
  unfold upTo at hu ⊢
  have hq : (n + s - 1).tdiv s = (n + s - 1) / s := Int.tdiv_eq_ediv_of_nonneg (by omega)
  have q0 : 0 ≤ (n + s - 1) / s := Int.ediv_nonneg (by omega) (by omega)
  have q1 : (n + s - 1) / s ≤ 3000 := by
    have := Int.ediv_le_self (a := n + s - 1) s (by omega)
    omega
  generalize (n + s - 1) / s = q at *
  have w1 : IntKind.i64.wrap q = q := w64 (by omega) (by omega)
  have w2 : IntKind.i64.wrap (q * s) = q * s := w64 (by omega) (by omega)
  have w1' : wrap64 q = q := w64' (by omega) (by omega)
  have w2' : wrap64 (q * s) = q * s := w64' (by omega) (by omega)
  clear hu
  go_enter Try.func45, Try.ntmps45
  go_wp2
  go_ret
  exact ⟨rfl, rfl⟩

end Go.Proofs.Ytcmhndkbcfpbbaa
